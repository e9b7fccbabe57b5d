import Derived.Test.YtjclpbaiiklhcaaGreatDoorZV7
import Derived.Test.YtjclpbaiiklhcaaGreatDoorZV5
/- OpenPage of the model. -/
namespace Go.Proofs.YtjclpbaiiklhcaaGreatDoor
open Go.RowKit

theorem head_is (s : ByteArray) (h : 0 < s.size) : s.data.toList.head? = some s[0] := by
  rw [List.head?_eq_getElem?]
  have h2 : 0 < s.data.toList.length := by rw [Array.length_toList]; exact h
  rw [List.getElem?_eq_getElem h2, Array.getElem_toList]
  rfl
theorem openR_form {s : ByteArray} (h0 : s ≠ ⟨#[]⟩) (h : formN s.data.toList = none) : openR s = (0, 0, ⟨#[]⟩, 2) := by unfold openR; rw [if_neg h0, h]
theorem openR_range {s : ByteArray} {n e c : Int} {b : List UInt8} (h0 : s ≠ ⟨#[]⟩) (h : formN s.data.toList = some (n, e, c, b)) (hp : pgOk n e (bytesOf b) = false) : openR s = (0, 0, ⟨#[]⟩, 3) := by
  unfold openR; rw [if_neg h0, h]; simp only; rw [if_neg (by rw [hp]; simp)]
theorem openR_sum {s : ByteArray} {n e c : Int} {b : List UInt8} (h0 : s ≠ ⟨#[]⟩) (h : formN s.data.toList = some (n, e, c, b)) (hp : pgOk n e (bytesOf b) = true) (hc : crcS (headS n e ++ bytesOf b) ≠ c) : openR s = (0, 0, ⟨#[]⟩, 4) := by
  unfold openR; rw [if_neg h0, h]; simp only; rw [if_pos hp, if_neg hc]
theorem openR_is {s : ByteArray} {n e c : Int} {b : List UInt8} (h0 : s ≠ ⟨#[]⟩) (h : formN s.data.toList = some (n, e, c, b)) (hp : pgOk n e (bytesOf b) = true) (hc : crcS (headS n e ++ bytesOf b) = c) : openR s = (n, e, bytesOf b, 0) := by
  unfold openR; rw [if_neg h0, h]; simp only; rw [if_pos hp, if_pos hc]

theorem form_no {s : ByteArray} (hp : 0 < s.size) (h : ¬ s[0].toNat = 80) : formN s.data.toList = none := by
  unfold formN
  rw [if_neg]
  rw [head_is s hp]
  intro e
  exact h (by rw [Option.some.inj e]; rfl)
theorem form_yes {s : ByteArray} (hp : 0 < s.size) (h : s[0].toNat = 80) : s.data.toList.head? = some 80 := by
  rw [head_is s hp]
  exact congrArg some (UInt8.toNat_inj.1 h)
theorem form_1 {s : ByteArray} (h : fieldN s 1 9 = none) : formN s.data.toList = none := by
  unfold formN
  rw [cut_field s 1 9, h]
  simp
theorem form_2 {s : ByteArray} {n : Int} {a : Nat} (h : fieldN s 1 9 = some (n, a)) (h2 : fieldN s a 9 = none) : formN s.data.toList = none := by
  unfold formN
  rw [cut_field s 1 9, h]
  simp only [Option.map_some]
  rw [cut_field s a 9, h2]
  simp
theorem form_3 {s : ByteArray} {n e : Int} {a b : Nat} (h : fieldN s 1 9 = some (n, a)) (h2 : fieldN s a 9 = some (e, b)) (h3 : fieldN s b 10 = none) : formN s.data.toList = none := by
  unfold formN
  rw [cut_field s 1 9, h]
  simp only [Option.map_some]
  rw [cut_field s a 9, h2]
  simp only [Option.map_some]
  rw [cut_field s b 10, h3]
  simp
theorem form_4 {s : ByteArray} {n e c : Int} {a b d : Nat} (h0 : s.data.toList.head? = some 80) (h : fieldN s 1 9 = some (n, a)) (h2 : fieldN s a 9 = some (e, b)) (h3 : fieldN s b 10 = some (c, d)) : formN s.data.toList = some (n, e, c, s.data.toList.drop d) := by
  unfold formN
  rw [if_pos h0, cut_field s 1 9, h]
  simp only [Option.map_some]
  rw [cut_field s a 9, h2]
  simp only [Option.map_some]
  rw [cut_field s b 10, h3]
  rfl

theorem fieldV_none {s : ByteArray} {a m : Nat} (h : fieldN s a m = none) : fieldV s a m = 0 ∧ fieldP s a m = -1 := by unfold fieldV fieldP; rw [h]; exact ⟨rfl, rfl⟩
theorem fieldV_some {s : ByteArray} {a m : Nat} {n : Int} {p : Nat} (h : fieldN s a m = some (n, p)) : fieldV s a m = n ∧ fieldP s a m = p := by unfold fieldV fieldP; rw [h]; exact ⟨rfl, rfl⟩
theorem drop_body (s : ByteArray) (d : Nat) : s.extract d s.size = bytesOf (s.data.toList.drop d) := by
  unfold bytesOf
  apply ByteArray.ext
  apply Array.toList_inj.1
  rw [ByteArray.data_extract, Array.toList_extract, List.extract_eq_take_drop]
  exact List.take_of_length_le (by rw [List.length_drop, Array.length_toList]; exact Nat.le_refl _)

set_option maxRecDepth 100000 in
set_option maxHeartbeats 3200000 in
theorem specOpen_any (s : ByteArray) (w : World) (hs : s.size ≤ 1000000000000) :
    Calls Tryz.prog 68 #[.string s] w fun x w' => x = .returned (openV (openR s)) ∧ Below w.heap.size w w' := by
  by_cases h0 : s = ⟨#[]⟩
  · subst h0
    go_enter Tryz.func68, Tryz.ntmps68
    go_wp2
    exact bodyPost_ret (v := openV (0, 0, ⟨#[]⟩, 1)) (by simp [results, Tryz.results68, go_sem, openV]) rfl ⟨rfl, Below.refl _ _⟩
  have hp : 0 < s.size := by have := size_pos h0; omega
  have q1 := str_nil h0
  have q2 : s.toList.isEmpty = false := by simpa using q1
  have H0 : Hid (s ≠ ⟨#[]⟩) := h0
  clear h0
  by_cases h80 : s[0].toNat = 80
  · have h80i : (s[0].toNat : Int) = 80 := by omega
    have HD : Hid (s.data.toList.head? = some 80) := form_yes hp h80
    have F1 := fun w => l2Field_any s 1 9 w hs hp (by omega)
    cases h1 : fieldN s 1 9 with
    | none =>
      obtain ⟨e1, e2⟩ := fieldV_none h1
      rw [e1, e2] at F1
      have G : Hid (openR s = (0, 0, ⟨#[]⟩, 2)) := openR_form H0.out (form_1 h1)
      clear h1 e1 e2
      go_enter Tryz.func68, Tryz.ntmps68
      go_wp2_with (go_at_call 84; refine (F1 _).mono ?_; rintro x w' ⟨rfl, rfl⟩)
      exact bodyPost_ret (v := openV (0, 0, ⟨#[]⟩, 2)) (by simp [results, Tryz.results68, go_sem, openV]) rfl ⟨by rw [G.out], Below.refl _ _⟩
    | some x1 =>
      obtain ⟨n, a⟩ := x1
      obtain ⟨e1, e2⟩ := fieldV_some h1
      obtain ⟨l1, l1'⟩ := field_le h1
      obtain ⟨r1, r2⟩ := field_range (by omega) h1
      have F2 := fun w => l2Field_any s a 9 w hs l1 (by omega)
      rw [e1, e2] at F1
      clear e1 e2
      go_enter Tryz.func68, Tryz.ntmps68
      go_wp2_with fail
      refine (F1 _).mono ?_
      rintro x w1 ⟨rfl, rfl⟩
      clear F1
      cases h2 : fieldN s a 9 with
      | none =>
        obtain ⟨e1, e2⟩ := fieldV_none h2
        rw [e1, e2] at F2
        have G : Hid (openR s = (0, 0, ⟨#[]⟩, 2)) := openR_form H0.out (form_2 h1 h2)
        clear h1 h2 e1 e2
        go_wp2_with (go_at_call 84; refine (F2 _).mono ?_; rintro x w' ⟨rfl, rfl⟩)
        exact bodyPost_ret (v := openV (0, 0, ⟨#[]⟩, 2)) (by simp [results, Tryz.results68, go_sem, openV]) rfl ⟨by rw [G.out], Below.refl _ _⟩
      | some x2 =>
        obtain ⟨e, b⟩ := x2
        obtain ⟨e1, e2⟩ := fieldV_some h2
        obtain ⟨l2, l2'⟩ := field_le h2
        obtain ⟨r3, r4⟩ := field_range (by omega) h2
        have F3 := fun w => l2Field_any s b 10 w hs l2 (by omega)
        rw [e1, e2] at F2
        clear e1 e2
        go_wp2_with fail
        refine (F2 _).mono ?_
        rintro x w2 ⟨rfl, rfl⟩
        clear F2
        cases h3 : fieldN s b 10 with
        | none =>
          obtain ⟨e1, e2⟩ := fieldV_none h3
          rw [e1, e2] at F3
          have G : Hid (openR s = (0, 0, ⟨#[]⟩, 2)) := openR_form H0.out (form_3 h1 h2 h3)
          clear h1 h2 h3 e1 e2
          go_wp2_with (go_at_call 84; refine (F3 _).mono ?_; rintro x w' ⟨rfl, rfl⟩)
          exact bodyPost_ret (v := openV (0, 0, ⟨#[]⟩, 2)) (by simp [results, Tryz.results68, go_sem, openV]) rfl ⟨by rw [G.out], Below.refl _ _⟩
        | some x3 =>
          obtain ⟨c, d⟩ := x3
          obtain ⟨e1, e2⟩ := fieldV_some h3
          obtain ⟨l3, l3'⟩ := field_le h3
          have FM := form_4 HD.out h1 h2 h3
          rw [e1, e2] at F3
          have DB := drop_body s d
          have DS : (bytesOf (s.data.toList.drop d)).size ≤ s.size := by
            show (s.data.toList.drop d).toArray.size ≤ s.size
            rw [List.size_toArray, List.length_drop, Array.length_toList]
            exact Nat.sub_le _ _
          generalize s.data.toList.drop d = bl at *
          have HF : Hid (formN s.data.toList = some (n, e, c, bl)) := FM
          clear e1 e2 h1 h2 h3 FM
          go_wp2_with fail
          refine (F3 _).mono ?_
          rintro x w3 ⟨rfl, rfl⟩
          clear F3
          go_wp2_with fail
          refine (l2Range_any _ _ _ _).mono ?_
          rintro x w4 ⟨rfl, rfl⟩
          clear DB
          cases hpg : pgOk n e (bytesOf bl)
          · have G : Hid (openR s = (0, 0, ⟨#[]⟩, 3)) := openR_range H0.out HF.out hpg
            clear hpg
            go_wp2
            exact bodyPost_ret (v := openV (0, 0, ⟨#[]⟩, 3)) (by simp [results, Tryz.results68, go_sem, openV]) rfl ⟨by rw [G.out], Below.refl _ _⟩
          have sh := headS_size (n := n) (e := e) (by omega) (by omega) (by omega) (by omega)
          have sz : (headS n e ++ bytesOf bl).size ≤ 1000000000042 := by rw [ByteArray.size_append]; omega
          obtain ⟨k1, k2, k3, k4, k5⟩ := pgOk_range hpg
          have sz2 : (headS n e ++ bytesOf bl).size ≤ 1000 := by rw [ByteArray.size_append]; omega
          have GS : Hid (crcS (headS n e ++ bytesOf bl) ≠ c → openR s = (0, 0, ⟨#[]⟩, 4)) := fun h => openR_sum H0.out HF.out hpg h
          have GI : Hid (crcS (headS n e ++ bytesOf bl) = c → openR s = (n, e, bytesOf bl, 0)) := fun h => openR_is H0.out HF.out hpg h
          clear hpg
          go_wp2_with fail
          refine (l2Head_any n e _ _ (by omega) (by omega) (by omega) (by omega)).mono ?_
          rintro x w5 ⟨rfl, hb5⟩
          go_wp2_with fail
          refine (crc_any _ _ (by omega)).mono ?_
          rintro x w6 ⟨rfl, rfl⟩
          by_cases hcc : crcS (headS n e ++ bytesOf bl) = c
          · have G : Hid (openR s = (n, e, bytesOf bl, 0)) := GI.out hcc
            rw [hcc]
            clear hcc GS GI
            go_wp2
            exact bodyPost_ret (v := openV (n, e, bytesOf bl, 0)) (by simp [results, Tryz.results68, go_sem, openV]) rfl ⟨by rw [G.out], hb5⟩
          · have G : Hid (openR s = (0, 0, ⟨#[]⟩, 4)) := GS.out hcc
            have hcc' : (crcS (headS n e ++ bytesOf bl) != c) = true := by simpa using hcc
            clear hcc GS GI
            go_wp2
            exact bodyPost_ret (v := openV (0, 0, ⟨#[]⟩, 4)) (by simp [results, Tryz.results68, go_sem, openV]) rfl ⟨by rw [G.out], hb5⟩
  · have h80i : ¬ (s[0].toNat : Int) = 80 := by omega
    have G : Hid (openR s = (0, 0, ⟨#[]⟩, 2)) := openR_form H0.out (form_no hp h80)
    go_enter Tryz.func68, Tryz.ntmps68
    go_wp2
    exact bodyPost_ret (v := openV (0, 0, ⟨#[]⟩, 2)) (by simp [results, Tryz.results68, go_sem, openV]) rfl ⟨by rw [G.out], Below.refl _ _⟩

end Go.Proofs.YtjclpbaiiklhcaaGreatDoor

/- A page opens to what it was packed of; one changed byte of its body is told by the sum. -/
namespace Go.Proofs.YtjclpbaiiklhcaaGreatDoor
open Go.RowKit

theorem crcBit_inj {c d : Nat} (hc : c < 4294967296) (hd : d < 4294967296) (h : crcBit c = crcBit d) : c = d := by
  have top : ∀ x : Nat, x < 4294967296 → (((x / 2) ^^^ 3988292384).testBit 31) = true := fun x hx => by
    rw [Nat.testBit_xor, Nat.testBit_lt_two_pow (show x / 2 < 2 ^ 31 by omega)]
    decide
  have low : ∀ x : Nat, x < 4294967296 → (x / 2).testBit 31 = false := fun x hx => Nat.testBit_lt_two_pow (show x / 2 < 2 ^ 31 by omega)
  unfold crcBit at h
  by_cases h1 : c % 2 = 1
  · by_cases h2 : d % 2 = 1
    · rw [if_pos h1, if_pos h2] at h
      have e : c / 2 = d / 2 := by
        have := congrArg (· ^^^ 3988292384) h
        simpa [Nat.xor_assoc] using this
      omega
    · rw [if_pos h1, if_neg h2] at h
      have t := top c hc
      rw [h, low d hd] at t
      cases t
  · by_cases h2 : d % 2 = 1
    · rw [if_neg h1, if_pos h2] at h
      have t := top d hd
      rw [← h, low c hc] at t
      cases t
    · rw [if_neg h1, if_neg h2] at h
      omega
theorem crcBits_inj {c d : Nat} (hc : c < 4294967296) (hd : d < 4294967296) : ∀ k, crcBits k c = crcBits k d → c = d
  | 0, h => h
  | k + 1, h => crcBits_inj hc hd k (crcBit_inj (crcBits_lt hc k) (crcBits_lt hd k) h)
theorem xor_left {a b c : Nat} (h : a ^^^ b = a ^^^ c) : b = c := by
  have := congrArg (a ^^^ ·) h
  simpa [← Nat.xor_assoc] using this
theorem crcByte_state {c d : Nat} (hc : c < 4294967296) (hd : d < 4294967296) (b : UInt8) (h : crcByte c b = crcByte d b) : c = d := by
  have e := crcBits_inj (crcXor_lt hc b) (crcXor_lt hd b) 8 h
  rw [Nat.xor_comm c, Nat.xor_comm d] at e
  exact xor_left e
theorem crcByte_byte {c : Nat} (hc : c < 4294967296) {a b : UInt8} (h : crcByte c a = crcByte c b) : a = b :=
  UInt8.toNat_inj.1 (xor_left (crcBits_inj (crcXor_lt hc a) (crcXor_lt hc b) 8 h))
theorem crcFold_inj (l : List UInt8) : ∀ {c d : Nat}, c < 4294967296 → d < 4294967296 → l.foldl crcByte c = l.foldl crcByte d → c = d := by
  induction l with
  | nil => intro c d _ _ h; exact h
  | cons x r ih => intro c d hc hd h; exact crcByte_state hc hd x (ih (crcByte_lt hc x) (crcByte_lt hd x) h)
/-- Two texts that differ in one byte alone have other sums. -/
theorem crcL_byte (l r : List UInt8) {a b : UInt8} (h : crcL (l ++ a :: r) = crcL (l ++ b :: r)) : a = b := by
  unfold crcL at h
  rw [List.foldl_append, List.foldl_append, List.foldl_cons, List.foldl_cons] at h
  have hl : l.foldl crcByte 4294967295 < 4294967296 := crcL_lt l
  exact crcByte_byte hl (crcFold_inj r (crcByte_lt hl a) (crcByte_lt hl b) h)
theorem crcS_set (g : ByteArray) (l : List UInt8) (i : Nat) (x : UInt8) (hi : i < l.length) (h : crcS (g ++ bytesOf (l.set i x)) = crcS (g ++ bytesOf l)) : x = l[i] := by
  unfold crcS at h
  have e : ∀ m : List UInt8, (g ++ bytesOf m).data.toList = g.data.toList ++ m := fun m => by
    unfold bytesOf
    rw [ByteArray.data_append, Array.toList_append]
  rw [e, e] at h
  have h' : crcL (g.data.toList ++ l.set i x) = crcL (g.data.toList ++ l) := by omega
  have s1 : l.set i x = l.take i ++ x :: l.drop (i + 1) := List.set_eq_take_append_cons_drop (l := l) (i := i) (a := x) |>.trans (if_pos hi)
  have s2 : l = l.take i ++ l[i] :: l.drop (i + 1) := by
    rw [← List.drop_eq_getElem_cons hi, List.take_append_drop]
  rw [s1] at h'
  conv at h' => rhs; rw [s2]
  rw [← List.append_assoc, ← List.append_assoc] at h'
  exact crcL_byte _ _ h'

theorem body_ten (v : Int) (h0 : 0 ≤ v) (h1 : v ≤ 4294967295) : (bodyN (itoaB v)).length ≤ 10 := by
  have E : (itoaB v).data.toList = Lib.itoa v := by unfold itoaB; simp
  have EL : Lib.itoa v = Lib.decDigits v.toNat := by unfold Lib.itoa; rw [if_neg (by omega)]
  have := dec_len 9 v.toNat (by omega)
  have hb : (bodyN (itoaB v)).length ≤ (Lib.itoa v).length := by
    unfold bodyN
    rw [E, List.length_drop]
    omega
  rw [EL] at hb
  omega
/-- The text of a page with some sum. -/
def pageT (n e c : Int) (b : ByteArray) : ByteArray := ⟨#[80]⟩ ++ headS n e ++ itoaB c ++ semi ++ b
theorem packS_page (n e : Int) (b : ByteArray) : packS n e b = pageT n e (crcS (headS n e ++ b)) b := rfl
theorem pageT_list (n e c : Int) (b : ByteArray) : (pageT n e c b).data.toList = 80 :: ((itoaB n).data.toList ++ 59 :: ((itoaB e).data.toList ++ 59 :: ((itoaB c).data.toList ++ 59 :: b.data.toList))) := by
  unfold pageT headS semi
  simp [ByteArray.data_append, Array.toList_append]
theorem open_pageT (n e c : Int) (b : ByteArray) (hp : pgOk n e b = true) (h0 : 0 ≤ c) (h1 : c ≤ 4294967295) : openR (pageT n e c b) = if crcS (headS n e ++ b) = c then (n, e, b, 0) else (0, 0, ⟨#[]⟩, 4) := by
  obtain ⟨r1, r2, r3, r4, r5⟩ := pgOk_range hp
  have hl := pageT_list n e c b
  have hne : pageT n e c b ≠ ⟨#[]⟩ := fun hc => by rw [hc] at hl; simp at hl
  have hb : bytesOf b.data.toList = b := by unfold bytesOf; apply ByteArray.ext; simp
  have hf : formN (pageT n e c b).data.toList = some (n, e, c, b.data.toList) := by
    rw [hl]
    unfold formN
    rw [List.head?_cons, if_pos rfl, List.drop_succ_cons, List.drop_zero, cut_itoa n _ 9 (body_small n r1 (by omega))]
    simp only
    rw [cut_itoa e _ 9 (body_small e r3 r4)]
    simp only
    rw [cut_itoa c _ 10 (body_ten c h0 h1)]
  by_cases hc : crcS (headS n e ++ b) = c
  · rw [if_pos hc, openR_is hne hf (by rw [hb]; exact hp) (by rw [hb]; exact hc), hb]
  · rw [if_neg hc, openR_sum hne hf (by rw [hb]; exact hp) (by rw [hb]; exact hc)]
theorem open_pack (n e : Int) (b : ByteArray) (hp : pgOk n e b = true) : openR (packS n e b) = (n, e, b, 0) := by
  obtain ⟨h0, h1⟩ := crcS_range (headS n e ++ b)
  rw [packS_page, open_pageT n e _ b hp h0 h1, if_pos rfl]
/-- One byte of the body changed: the text does not open. -/
theorem open_bent (n e : Int) (b : ByteArray) (hp : pgOk n e b = true) (i : Nat) (hi : i < b.data.toList.length) (x : UInt8) (hx : x ≠ b.data.toList[i]) : (openR (pageT n e (crcS (headS n e ++ b)) (bytesOf (b.data.toList.set i x)))).2.2.2 = 4 := by
  obtain ⟨h0, h1⟩ := crcS_range (headS n e ++ b)
  have hb : bytesOf b.data.toList = b := by unfold bytesOf; apply ByteArray.ext; simp
  have hsz : (bytesOf (b.data.toList.set i x)).size = b.size := by
    show (b.data.toList.set i x).toArray.size = b.size
    rw [List.size_toArray, List.length_set, Array.length_toList]
    rfl
  have hp' : pgOk n e (bytesOf (b.data.toList.set i x)) = true := by
    unfold pgOk at hp ⊢
    rw [hsz]
    exact hp
  rw [open_pageT n e _ _ hp' h0 h1, if_neg]
  intro hc
  conv at hc => rhs; rw [← hb]
  exact hx (crcS_set _ _ i x hi hc)

end Go.Proofs.YtjclpbaiiklhcaaGreatDoor

/- Two texts that differ within seven bytes in a row, and there in the low halves of the bytes alone, have other sums. -/
namespace Go.Proofs.YtjclpbaiiklhcaaGreatDoor
open Go.RowKit

theorem crcBit_xorN (a b : Nat) : crcBit (a ^^^ b) = crcBit a ^^^ crcBit b := by
  have h2 : (a ^^^ b) / 2 = (a / 2) ^^^ (b / 2) := by
    have := Nat.shiftRight_xor_distrib (a := a) (b := b) (i := 1)
    simpa [Nat.shiftRight_succ] using this
  have hm : (a ^^^ b) % 2 = (a % 2 + b % 2) % 2 := by
    have := Nat.xor_mod_two_pow (a := a) (b := b) (n := 1)
    simp only [Nat.pow_one] at this
    rw [this]
    rcases Nat.mod_two_eq_zero_or_one a with h | h <;> rcases Nat.mod_two_eq_zero_or_one b with k | k <;> simp [h, k]
  unfold crcBit
  rw [h2, hm]
  rcases Nat.mod_two_eq_zero_or_one a with h | h <;> rcases Nat.mod_two_eq_zero_or_one b with k | k <;> simp [h, k]
  · rw [Nat.xor_assoc]
  · rw [Nat.xor_assoc, Nat.xor_assoc, Nat.xor_comm (b / 2)]
  · rw [Nat.xor_assoc, ← Nat.xor_assoc 3988292384, Nat.xor_comm 3988292384 (b / 2), Nat.xor_assoc, Nat.xor_self, Nat.xor_zero]
theorem crcBits_xorN (a b : Nat) : ∀ k, crcBits k (a ^^^ b) = crcBits k a ^^^ crcBits k b
  | 0 => rfl
  | k + 1 => by
    show crcBit (crcBits k (a ^^^ b)) = crcBit (crcBits k a) ^^^ crcBit (crcBits k b)
    rw [crcBits_xorN a b k, crcBit_xorN]
theorem crcBits_zero : ∀ k, crcBits k 0 = 0
  | 0 => rfl
  | k + 1 => by
    show crcBit (crcBits k 0) = 0
    rw [crcBits_zero k]
    rfl
theorem crcBits_add (c : Nat) (j : Nat) : ∀ k, crcBits k (crcBits j c) = crcBits (k + j) c
  | 0 => by rw [Nat.zero_add]; rfl
  | k + 1 => by
    have e : k + 1 + j = (k + j) + 1 := by omega
    rw [e]
    show crcBit (crcBits k (crcBits j c)) = crcBit (crcBits (k + j) c)
    rw [crcBits_add c j k]

/-- The sum of the differences. -/
def crcD (c : Nat) (d : List Nat) : Nat := d.foldl (fun s x => crcBits 8 (s ^^^ x)) c
theorem crcD_fold : ∀ (x y : List UInt8), x.length = y.length → ∀ c c' : Nat, x.foldl crcByte c ^^^ y.foldl crcByte c' = crcD (c ^^^ c') (List.zipWith (fun a b => a.toNat ^^^ b.toNat) x y)
  | [], [], _ => fun _ _ => rfl
  | a :: x, b :: y, h => fun c c' => by
    have h' : x.length = y.length := by simpa using h
    show x.foldl crcByte (crcByte c a) ^^^ y.foldl crcByte (crcByte c' b) = crcD (crcBits 8 ((c ^^^ c') ^^^ (a.toNat ^^^ b.toNat))) _
    rw [crcD_fold x y h']
    unfold crcByte
    rw [← crcBits_xorN]
    congr 2
    rw [Nat.xor_assoc, Nat.xor_assoc, ← Nat.xor_assoc a.toNat, Nat.xor_comm a.toNat, Nat.xor_assoc]
  | [], _ :: _, h => by simp at h
  | _ :: _, [], h => by simp at h

/-- How many of the bits that both have are odd. -/
def par (m x : Nat) : Bool := (List.range 32).foldl (fun a i => a ^^ (m.testBit i && x.testBit i)) false
theorem par_xor (m x y : Nat) : par m (x ^^^ y) = (par m x ^^ par m y) := by
  have key : ∀ (l : List Nat) (p q : Bool), l.foldl (fun a i => a ^^ (m.testBit i && (x ^^^ y).testBit i)) (p ^^ q) = (l.foldl (fun a i => a ^^ (m.testBit i && x.testBit i)) p ^^ l.foldl (fun a i => a ^^ (m.testBit i && y.testBit i)) q) := by
    intro l
    induction l with
    | nil => intro p q; rfl
    | cons i l ih =>
      intro p q
      simp only [List.foldl_cons]
      rw [← ih, Nat.testBit_xor]
      congr 1
      cases m.testBit i <;> cases x.testBit i <;> cases y.testBit i <;> cases p <;> cases q <;> rfl
  have := key (List.range 32) false false
  simpa [par] using this
theorem par_zero (m : Nat) : par m 0 = false := by
  unfold par
  have key : ∀ (l : List Nat), l.foldl (fun a i => a ^^ (m.testBit i && (0 : Nat).testBit i)) false = false := by
    intro l
    induction l with
    | nil => rfl
    | cons i l ih => simp only [List.foldl_cons, Nat.zero_testBit, Bool.and_false, Bool.bne_false]; simpa using ih
  exact key _

def nibM : List Nat := [2231797076, 3082479877, 2479792704, 855042837, 2703985492, 463194961, 3239876608, 3263916036, 1024062544, 2798249297, 99548948, 3114200917, 2809315653, 1245693265, 3775613764, 648143633, 1807202884, 2166190416, 2740667140, 2805923845, 2824482053, 808277316, 1570706709, 303466240, 3744170004, 3201392916, 1043160069, 2231575876]
/-- Mask number 4 i + b tells bit b of half number i. -/
def nibOk : Bool := (List.range 28).all fun t => (List.range 7).all fun i => (List.range 16).all fun d => par (nibM.getD t 0) (crcBits (8 * (7 - i)) d) == (if t / 4 = i then d.testBit (t % 4) else false)
set_option maxRecDepth 100000 in
theorem nib_ok : nibOk = true := by decide +kernel
theorem nib_at {t i d : Nat} (ht : t < 28) (hi : i < 7) (hd : d < 16) : par (nibM.getD t 0) (crcBits (8 * (7 - i)) d) = (if t / 4 = i then d.testBit (t % 4) else false) := by
  have h := nib_ok
  unfold nibOk at h
  have h1 := List.all_eq_true.1 h t (List.mem_range.2 ht)
  have h2 := List.all_eq_true.1 h1 i (List.mem_range.2 hi)
  have h3 := List.all_eq_true.1 h2 d (List.mem_range.2 hd)
  exact eq_of_beq h3
theorem half_zero {d : Nat} (hd : d < 16) (h : ∀ b, b < 4 → d.testBit b = false) : d = 0 := by
  apply Nat.eq_of_testBit_eq
  intro i
  rw [Nat.zero_testBit]
  by_cases hi : i < 4
  · exact h i hi
  · exact Nat.testBit_lt_two_pow (Nat.lt_of_lt_of_le hd (show 2 ^ 4 ≤ 2 ^ i from Nat.pow_le_pow_right (by omega) (by omega)))
theorem seven_zero (d0 d1 d2 d3 d4 d5 d6 : Nat) (h0 : d0 < 16) (h1 : d1 < 16) (h2 : d2 < 16) (h3 : d3 < 16) (h4 : d4 < 16) (h5 : d5 < 16) (h6 : d6 < 16) (h : crcD 0 [d0, d1, d2, d3, d4, d5, d6] = 0) :
    d0 = 0 ∧ d1 = 0 ∧ d2 = 0 ∧ d3 = 0 ∧ d4 = 0 ∧ d5 = 0 ∧ d6 = 0 := by
  have e : crcD 0 [d0, d1, d2, d3, d4, d5, d6] = crcBits 56 d0 ^^^ crcBits 48 d1 ^^^ crcBits 40 d2 ^^^ crcBits 32 d3 ^^^ crcBits 24 d4 ^^^ crcBits 16 d5 ^^^ crcBits 8 d6 := by
    simp only [crcD, List.foldl_cons, List.foldl_nil, Nat.zero_xor, crcBits_xorN, crcBits_add, crcBits_zero, Nat.reduceAdd]
  rw [e] at h
  have P : ∀ t, t < 28 → ((((((par (nibM.getD t 0) (crcBits (8 * (7 - 0)) d0) ^^ par (nibM.getD t 0) (crcBits (8 * (7 - 1)) d1)) ^^ par (nibM.getD t 0) (crcBits (8 * (7 - 2)) d2)) ^^ par (nibM.getD t 0) (crcBits (8 * (7 - 3)) d3)) ^^ par (nibM.getD t 0) (crcBits (8 * (7 - 4)) d4)) ^^ par (nibM.getD t 0) (crcBits (8 * (7 - 5)) d5)) ^^ par (nibM.getD t 0) (crcBits (8 * (7 - 6)) d6)) = false := fun t _ => by
    have := congrArg (par (nibM.getD t 0)) h
    simpa only [par_xor, par_zero] using this
  have Q : ∀ i b, i < 7 → b < 4 → (((((((if i = 0 then d0.testBit b else false) ^^ (if i = 1 then d1.testBit b else false)) ^^ (if i = 2 then d2.testBit b else false)) ^^ (if i = 3 then d3.testBit b else false)) ^^ (if i = 4 then d4.testBit b else false)) ^^ (if i = 5 then d5.testBit b else false)) ^^ (if i = 6 then d6.testBit b else false)) = false := fun i b hi hb => by
    have h := P (4 * i + b) (by omega)
    rw [nib_at (by omega) (by omega) h0, nib_at (by omega) (by omega) h1, nib_at (by omega) (by omega) h2, nib_at (by omega) (by omega) h3, nib_at (by omega) (by omega) h4, nib_at (by omega) (by omega) h5, nib_at (by omega) (by omega) h6] at h
    rw [show (4 * i + b) / 4 = i by omega, show (4 * i + b) % 4 = b by omega] at h
    exact h
  exact ⟨half_zero h0 fun b hb => by simpa using Q 0 b (by omega) hb, half_zero h1 fun b hb => by simpa using Q 1 b (by omega) hb, half_zero h2 fun b hb => by simpa using Q 2 b (by omega) hb, half_zero h3 fun b hb => by simpa using Q 3 b (by omega) hb,
    half_zero h4 fun b hb => by simpa using Q 4 b (by omega) hb, half_zero h5 fun b hb => by simpa using Q 5 b (by omega) hb, half_zero h6 fun b hb => by simpa using Q 6 b (by omega) hb⟩
theorem crcD_pad (d : List Nat) : ∀ k, crcD 0 (List.replicate k 0 ++ d) = crcD 0 d
  | 0 => rfl
  | k + 1 => by
    show crcD (crcBits 8 (0 ^^^ 0)) (List.replicate k 0 ++ d) = _
    rw [Nat.xor_self, crcBits_zero]
    exact crcD_pad d k
theorem diff_zero (d : List Nat) (hl : d.length ≤ 7) (hd : ∀ x ∈ d, x < 16) (h : crcD 0 d = 0) : ∀ x ∈ d, x = 0 := by
  have e := crcD_pad d (7 - d.length)
  rw [h] at e
  have hlen : (List.replicate (7 - d.length) 0 ++ d).length = 7 := by simp; omega
  have hall : ∀ x ∈ List.replicate (7 - d.length) 0 ++ d, x < 16 := fun x hx => by
    rcases List.mem_append.1 hx with hx | hx
    · rw [(List.mem_replicate.1 hx).2]; omega
    · exact hd x hx
  have hsub : ∀ x ∈ d, x ∈ List.replicate (7 - d.length) 0 ++ d := fun x hx => List.mem_append_right _ hx
  generalize List.replicate (7 - d.length) 0 ++ d = D at *
  match D, hlen with
  | [d0, d1, d2, d3, d4, d5, d6], _ =>
    have z := seven_zero d0 d1 d2 d3 d4 d5 d6 (hall _ (by simp)) (hall _ (by simp)) (hall _ (by simp)) (hall _ (by simp)) (hall _ (by simp)) (hall _ (by simp)) (hall _ (by simp)) e
    intro x hx
    have := hsub x hx
    simp only [List.mem_cons, List.not_mem_nil, or_false] at this
    omega
/-- A byte of a number or the sign between two. -/
def isHalf (b : UInt8) : Bool := decide (48 ≤ b.toNat ∧ b.toNat ≤ 63)
theorem half_xorN {a b : UInt8} (ha : isHalf a = true) (hb : isHalf b = true) : a.toNat ^^^ b.toNat < 16 := by
  have key : ∀ x : Nat, x < 256 → ∀ y : Nat, y < 256 → 48 ≤ x ∧ x ≤ 63 → 48 ≤ y ∧ y ≤ 63 → x ^^^ y < 16 := fun x _ y _ hx hy => by
    have e1 : x = 48 + (x - 48) := by omega
    have e2 : y = 48 + (y - 48) := by omega
    have : ∀ p : Fin 16, ∀ q : Fin 16, (48 + p.1) ^^^ (48 + q.1) < 16 := by decide +kernel
    rw [e1, e2]
    exact this ⟨x - 48, by omega⟩ ⟨y - 48, by omega⟩
  exact key _ a.toNat_lt _ b.toNat_lt (of_decide_eq_true ha) (of_decide_eq_true hb)
theorem xor_zero_eq {a b : Nat} (h : a ^^^ b = 0) : a = b := by
  have := congrArg (· ^^^ b) h
  simpa [Nat.xor_assoc] using this
theorem zip_eq : ∀ (x y : List UInt8), x.length = y.length → (∀ d ∈ List.zipWith (fun a b => a.toNat ^^^ b.toNat) x y, d = 0) → x = y
  | [], [], _, _ => rfl
  | a :: x, b :: y, h, hd => by
    have h0 := hd (a.toNat ^^^ b.toNat) (by simp)
    rw [zip_eq x y (by simpa using h) (fun d hm => hd d (by simp [hm])), UInt8.toNat_inj.1 (xor_zero_eq h0)]
  | [], _ :: _, h, _ => by simp at h
  | _ :: _, [], h, _ => by simp at h
theorem zip_half : ∀ (x y : List UInt8), x.all isHalf = true → y.all isHalf = true → ∀ d ∈ List.zipWith (fun a b => a.toNat ^^^ b.toNat) x y, d < 16
  | [], _, _, _, d, hd => by simp at hd
  | _ :: _, [], _, _, d, hd => by simp at hd
  | a :: x, b :: y, hx, hy, d, hd => by
    rw [List.all_cons, Bool.and_eq_true] at hx hy
    simp only [List.zipWith_cons_cons, List.mem_cons] at hd
    rcases hd with rfl | hd
    · exact half_xorN hx.1 hy.1
    · exact zip_half x y hx.2 hy.2 d hd
/-- Seven halves in a row. -/
theorem crc_halves (p x y r : List UInt8) (hl : x.length = y.length) (h7 : x.length ≤ 7) (hx : x.all isHalf = true) (hy : y.all isHalf = true) (h : crcL (p ++ (x ++ r)) = crcL (p ++ (y ++ r))) : x = y := by
  unfold crcL at h
  simp only [List.foldl_append] at h
  have hc : p.foldl crcByte 4294967295 < 4294967296 := crcL_lt p
  have key : ∀ (l : List UInt8) (c : Nat), c < 4294967296 → l.foldl crcByte c < 4294967296 := by
    intro l
    induction l with
    | nil => intro c h; exact h
    | cons x r ih => intro c h; exact ih _ (crcByte_lt h x)
  have e := crcFold_inj r (key x _ hc) (key y _ hc) h
  have f := crcD_fold x y hl (p.foldl crcByte 4294967295) (p.foldl crcByte 4294967295)
  rw [e, Nat.xor_self, Nat.xor_self] at f
  have hlen : (List.zipWith (fun a b : UInt8 => a.toNat ^^^ b.toNat) x y).length ≤ 7 := by rw [List.length_zipWith]; omega
  exact zip_eq x y hl (diff_zero _ hlen (zip_half x y hx hy) f.symm)

end Go.Proofs.YtjclpbaiiklhcaaGreatDoor

/- tornText of the program: the head of a text and behind it the rest of what was there. -/
namespace Go.Proofs.YtjclpbaiiklhcaaGreatDoor.Disk
open Go.RowKit Go.Deep

def torn (t th : ByteArray) : ByteArray := ⟨(part t 0 (t.size / 2) ++ part th (t.size / 2) th.size).toArray⟩

theorem torn_short (t th : ByteArray) (h : th.size ≤ t.size / 2) : (⟨(part t 0 (t.size / 2)).toArray⟩ : ByteArray) = torn t th := by
  have e : part th (t.size / 2) th.size = [] := by
    apply List.eq_nil_of_length_eq_zero
    rw [part_length th _ _ (Nat.le_refl _)]
    omega
  unfold torn
  rw [e, List.append_nil]

theorem Tryz.info5 : (Tryz.prog.info? 5).map (fun i => (i.zero, i.size, i.bytes)) = some (some (.int .u8 0), 1, 1) := by kernel_rfl
theorem Tryz.under73 : Tryz.prog.underlying 22 = some (.slice 5) := by kernel_rfl

def bcells (l : List UInt8) : List Value := l.map fun b => Value.int .u8 (b.toNat : Int)
theorem bcells_length (l : List UInt8) : (bcells l).length = l.length * 1 := by simp [bcells]
theorem bcells_at {w : World} {a : Addr} {l : List UInt8} (h : BytesAt w a l) : ∀ j u, (bcells l)[j]? = some u → w.cell? (a.add j) = some u := fun j u hu => by
  have hj := getElem?_lt hu
  rw [bcells_length, Nat.mul_one] at hj
  rw [h j hj, ← hu]
  simp [bcells, hj]
theorem bcells_one (l : List UInt8) : ∀ u ∈ bcells l, u.oneCell' = true := fun u hu => by
  obtain ⟨b, _, rfl⟩ := List.mem_map.1 hu
  rfl

theorem bytes_owned {w : World} {B b n cap : Nat} {l : List UInt8} (hn : n = l.length) (h : w.ownsRow B 5 1 (.slice (some ⟨b, 0, none⟩) n cap) n (bcells l)) : BytesAt w ⟨b, 0, none⟩ l := by
  obtain ⟨N, f, hr, hN, _⟩ := owned_row (fun i => Value.int .u8 ((l.getD i 0).toNat : Int)) h (fun i hi => by
    rw [bcells_length, Nat.mul_one] at hi
    simp [bcells, hi])
  intro j hj
  rw [Addr.add_lit, Nat.zero_add, hr.cell (by omega), if_pos (by omega)]
  simp [hj]

theorem torn_conv (t th : ByteArray) {w3 : World} {B n m : Nat} {v' : Value} (hn : n = (part t 0 (t.size / 2)).length) (hm : m = (part th (t.size / 2) th.size).length) (h0 : 0 < n + m)
    (hown : w3.ownsRow B 5 1 v' (n + m) (bcells (part t 0 (t.size / 2)) ++ bcells (part th (t.size / 2) th.size))) :
    ∃ g cp, v' = .slice (some ⟨g, 0, none⟩) (n + m) cp ∧ (convert 22 9 (.slice (some ⟨g, 0, none⟩) (n + m) cp)).run Tryz.prog w3 = .ok (.string (torn t th)) w3 := by
  obtain ⟨g, cp, rfl⟩ : ∃ g cp, v' = .slice (some ⟨g, 0, none⟩) (n + m) cp := by
    rcases hown.2 with ⟨_, h⟩ | ⟨g, cp, _, hv, _⟩
    · omega
    · exact ⟨g, cp, hv⟩
  have hl : n + m = (part t 0 (t.size / 2) ++ part th (t.size / 2) th.size).length := by rw [List.length_append, hn, hm]
  have hown' : w3.ownsRow B 5 1 (.slice (some ⟨g, 0, none⟩) (n + m) cp) (n + m) (bcells (part t 0 (t.size / 2) ++ part th (t.size / 2) th.size)) := by
    unfold bcells at hown ⊢
    rw [List.map_append]
    exact hown
  exact ⟨g, cp, rfl, conv_back w3 ⟨g, 0, none⟩ cp _ (n + m) hl (bytes_owned hl hown')⟩

set_option maxRecDepth 100000 in
set_option maxHeartbeats 1000000 in
theorem tornText_any (t th : ByteArray) (w : World) (ht : t.size ≤ 256) (hth : th.size ≤ 256) :
    Calls Tryz.prog 65 #[.string t, .string th] w fun e w' => e = .returned (.string (torn t th)) ∧ Below w.heap.size w w' := by
  have hh : ((t.size : Int) / 2) = ((t.size / 2 : Nat) : Int) := by omega
  have HH : Hid (((t.size : Int) / 2) = ((t.size / 2 : Nat) : Int)) := hh
  clear hh
  obtain ⟨i0, hi, hzz⟩ := Option.map_eq_some_iff.1 Tryz.info5
  simp only [Prod.mk.injEq] at hzz
  obtain ⟨hz0, hz1, hz2⟩ := hzz
  have HI : Hid (Tryz.prog.info? 5 = some i0 ∧ i0.zero = some (.int .u8 0) ∧ i0.size = 1 ∧ i0.bytes = 1) := ⟨hi, hz0, hz1, hz2⟩
  clear hi hz0 hz1 hz2
  go_enter Tryz.func65, Tryz.ntmps65
  go_wp2_with (fail)
  rw [HH.out]
  refine (textPart_any t 0 (t.size / 2) _ (by omega) (by omega) (by omega)).mono ?_
  rintro e w1 ⟨a, n, rfl, hn, hB, hb⟩
  have HN : Hid (n = (part t 0 (t.size / 2)).length) := hn
  clear hn
  by_cases hlt : th.size ≤ t.size / 2
  · have hcv := conv_back w1 a n (part t 0 (t.size / 2)) n HN.out hB
    rw [torn_short t th hlt] at hcv
    have hge : ((th.size : Int) ≤ ((t.size / 2 : Nat) : Int)) := by omega
    go_wp2
    go_ret
    exact ⟨rfl, hb⟩
  · have hge : ¬ ((th.size : Int) ≤ ((t.size / 2 : Nat) : Int)) := by omega
    go_wp2_with (fail)
    refine (textPart_any th (t.size / 2) th.size _ (by omega) (by omega) (Nat.le_refl _)).mono ?_
    rintro e w2 ⟨a', m, rfl, hm, hB', hb'⟩
    have HM : Hid (m = (part th (t.size / 2) th.size).length) := hm
    clear hm
    have hbw := bel_then hb hb.size hb'
    have l1 := part_length t 0 (t.size / 2) (by omega)
    have l2 := part_length th (t.size / 2) th.size (Nat.le_refl _)
    have HL : Hid ((part t 0 (t.size / 2)).length = t.size / 2 - 0 ∧ (part th (t.size / 2) th.size).length = th.size - t.size / 2) := ⟨l1, l2⟩
    have hB2 := hB.later hb'
    clear l1 l2 hB hb hb'
    go_wp2_with (first | (at_builtin; refine wpList_append_grows _ rfl _ _ 22 rfl 5 i0 (.int .u8 0) 1 1 Tryz.under73 HI.out.1 HI.out.2.1 HI.out.2.2.1 HI.out.2.2.2 rfl (by decide) (some a) n n (bcells (part t 0 (t.size / 2))) rfl (by intro h; cases h) (by rw [bcells_length, HN.out]) (by intro b hb j u hu; cases hb; exact bcells_at hB2 j u hu) a' m m (bcells (part th (t.size / 2) th.size)) rfl (by rw [bcells_length, HM.out]) (bcells_at hB') (bcells_one _) (by have := HL.out; have := HM.out; omega) (by have := HL.out; have := HM.out; have := HN.out; unfold maxLen; omega) (by have := HL.out; have := HM.out; have := HN.out; omega) ?_; intro v' w3 hown hg; obtain ⟨g, cp, rfl, hcv2⟩ := torn_conv t th HN.out HM.out (by have := HL.out; have := HM.out; omega) hown))
    have hb3 : Below w.heap.size w w3 := hbw.grown hg hbw.size (fun k e => by cases e)
    go_ret
    exact ⟨rfl, hb3⟩

end Go.Proofs.YtjclpbaiiklhcaaGreatDoor.Disk

/- A superblock's text that is torn over an elder one is none of the epoch before, in the plain words of lists. -/
namespace Go.Proofs.YtjclpbaiiklhcaaGreatDoor
open Go.RowKit

theorem itoa_dec {v : Int} (h : 0 ≤ v) : (itoaB v).data.toList = Lib.decDigits v.toNat := by
  have E : (itoaB v).data.toList = Lib.itoa v := by unfold itoaB; simp
  rw [E]
  unfold Lib.itoa
  rw [if_neg (by omega)]
theorem itoa_digs {v : Int} (h : 0 ≤ v) : (itoaB v).data.toList.all isDig = true := by
  rw [itoa_dec h]
  exact (dec_facts _ _ (Nat.le_refl _)).1
theorem itoa_dsv {v : Int} (h : 0 ≤ v) : dsv (itoaB v).data.toList = v.toNat := by
  rw [itoa_dec h]
  exact (dec_facts _ _ (Nat.le_refl _)).2.1
theorem itoa_inj {v u : Int} (hv : 0 ≤ v) (hu : 0 ≤ u) (h : (itoaB v).data.toList = (itoaB u).data.toList) : v = u := by
  have := itoa_dsv hv
  rw [h, itoa_dsv hu] at this
  omega
theorem dsv_mono (a : List UInt8) : ∀ b : List UInt8, dsv a ≤ dsv (a ++ b) := by
  intro b
  unfold dsv
  rw [List.foldl_append]
  generalize a.foldl (fun n b => n * 10 + (b.toNat - 48)) 0 = k
  induction b generalizing k with
  | nil => exact Nat.le_refl _
  | cons x t ih => exact Nat.le_trans (by omega : k ≤ k * 10 + (x.toNat - 48)) (ih _)
theorem dig_half {l : List UInt8} (h : l.all isDig = true) : l.all isHalf = true := by
  rw [List.all_eq_true] at h ⊢
  intro b hb
  have := of_decide_eq_true (show decide (48 ≤ b.toNat ∧ b.toNat ≤ 57) = true from h b hb)
  unfold isHalf
  exact decide_eq_true (by omega)
theorem dig_no59 {l : List UInt8} (h : l.all isDig = true) : (59 : UInt8) ∉ l := fun hm => by
  have := List.all_eq_true.1 h 59 hm
  revert this
  decide
/-- Where the last ; stands is told by the text. -/
theorem last_semi : ∀ (A A' c c' : List UInt8), (59 : UInt8) ∉ c → (59 : UInt8) ∉ c' → A ++ 59 :: c = A' ++ 59 :: c' → A = A' ∧ c = c'
  | [], [], c, c', _, _, h => by simpa using h
  | [], a :: A', c, c', h1, _, h => by
    simp only [List.nil_append, List.cons_append, List.cons.injEq] at h
    exact absurd (by rw [h.2]; simp) h1
  | a :: A, [], c, c', _, h2, h => by
    simp only [List.nil_append, List.cons_append, List.cons.injEq] at h
    exact absurd (by rw [← h.2]; simp) h2
  | a :: A, a' :: A', c, c', h1, h2, h => by
    simp only [List.cons_append, List.cons.injEq] at h
    obtain ⟨e1, e2⟩ := last_semi A A' c c' h1 h2 h.2
    exact ⟨by rw [h.1, e1], e2⟩
theorem split_last : ∀ (r : List UInt8), (59 : UInt8) ∈ r → ∃ r1 c, r = r1 ++ 59 :: c ∧ (59 : UInt8) ∉ c
  | [], h => by simp at h
  | x :: r, h => by
    by_cases hr : (59 : UInt8) ∈ r
    · obtain ⟨r1, c, e, hc⟩ := split_last r hr
      exact ⟨x :: r1, c, by rw [e]; rfl, hc⟩
    · rcases List.mem_cons.1 h with rfl | h
      · exact ⟨[], r, rfl, hr⟩
      · exact absurd h hr

/-- T: the new text, of E; O: the old one; t: the torn one, of e. -/
theorem torn_bad (T O t dE R1 de R3 Pt ct Po co : List UInt8) (h : Nat) (h1 : 1 ≤ h)
    (hT : T = 83 :: (dE ++ 59 :: R1)) (hdE : dE.all isDig = true) (hm : dE.length ≤ 8) (ht : t = 83 :: (de ++ 59 :: R3)) (hlt : dsv de < dsv dE)
    (hs : t = T.take h ++ O.drop h) (hO : O = [] ∨ ((∃ O', O = 83 :: O' ∧ O'.all isHalf = true) ∧ O = Po ++ 59 :: co ∧ (59 : UInt8) ∉ co ∧ ∃ v : Int, co = (itoaB v).data.toList ∧ v = 4294967295 - (crcL (Po ++ [59]) : Int)))
    (hp : t = Pt ++ 59 :: ct) (hct : (59 : UInt8) ∉ ct) (hsum : ∃ v : Int, ct = (itoaB v).data.toList ∧ v = 4294967295 - (crcL (Pt ++ [59]) : Int)) : t = O := by
  have hle : h ≤ dE.length := by
    apply Classical.byContradiction
    intro hc
    have e1 : t.take (dE.length + 1) = 83 :: dE := by
      rw [hs, List.take_append_of_le_length (by rw [List.length_take, hT]; simp; omega), List.take_take, Nat.min_eq_left (by omega), hT]
      simp
    rw [ht, List.take_succ_cons] at e1
    have e2 : (de ++ 59 :: R3).take dE.length = dE := by simpa using e1
    by_cases hk : dE.length ≤ de.length
    · rw [List.take_append_of_le_length hk] at e2
      have := dsv_mono (de.take dE.length) (de.drop dE.length)
      rw [List.take_append_drop, e2] at this
      omega
    · have : (59 : UInt8) ∈ dE := by
        rw [← e2, List.take_append, List.mem_append]
        right
        have e3 : dE.length - de.length = (dE.length - de.length - 1) + 1 := by omega
        rw [e3, List.take_succ_cons]
        exact List.mem_cons_self ..
      exact dig_no59 hdE this
  obtain ⟨k, rfl⟩ : ∃ k, h = k + 1 := ⟨h - 1, by omega⟩
  have eT : T.take (k + 1) = 83 :: dE.take k := by
    rw [hT, List.take_succ_cons, List.take_append_of_le_length (by omega)]
  have hmem : (59 : UInt8) ∈ O.drop (k + 1) := by
    have : (59 : UInt8) ∈ t := by rw [ht]; simp
    rw [hs, eT] at this
    rcases List.mem_append.1 this with hh | hh
    · rcases List.mem_cons.1 hh with hh | hh
      · exact absurd hh (by decide)
      · exact absurd (List.mem_of_mem_take hh) (dig_no59 hdE)
    · exact hh
  rcases hO with rfl | ⟨⟨O', hO', hO2⟩, hPo, hco, vo, hvo, evo⟩
  · simp at hmem
  obtain ⟨vt, hvt, evt⟩ := hsum
  have eO : O = 83 :: (O'.take k ++ O'.drop k) := by rw [List.take_append_drop]; exact hO'
  have eD : O.drop (k + 1) = O'.drop k := by rw [hO', List.drop_succ_cons]
  rw [eD] at hmem
  have hlen : k < O'.length := by
    apply Classical.byContradiction
    intro hc
    rw [List.drop_eq_nil_of_le (by omega)] at hmem
    simp at hmem
  obtain ⟨r1, c, er, hc⟩ := split_last _ hmem
  have et : t = (83 :: (dE.take k ++ r1)) ++ 59 :: c := by
    rw [hs, eT, eD, er]
    simp
  have eo : O = (83 :: (O'.take k ++ r1)) ++ 59 :: c := by
    rw [eO, er]
    simp
  obtain ⟨p1, p2⟩ := last_semi _ _ _ _ hct hc (hp.symm.trans et)
  obtain ⟨q1, q2⟩ := last_semi _ _ _ _ hco hc (hPo.symm.trans eo)
  have rng : ∀ l : List UInt8, (0 : Int) ≤ 4294967295 - (crcL l : Int) := fun l => by have := crcL_lt l; omega
  have ev : vt = vo := by
    refine itoa_inj (by rw [evt]; exact rng _) (by rw [evo]; exact rng _) ?_
    rw [← hvt, ← hvo, p2, q2]
  have ec : crcL (Pt ++ [59]) = crcL (Po ++ [59]) := by omega
  rw [p1, q1] at ec
  have ex : ([83] : List UInt8) ++ (dE.take k ++ (r1 ++ [59])) = (83 :: (dE.take k ++ r1)) ++ [59] := by simp
  have ey : ([83] : List UInt8) ++ (O'.take k ++ (r1 ++ [59])) = (83 :: (O'.take k ++ r1)) ++ [59] := by simp
  have hal : ∀ (l : List UInt8) (n : Nat), l.all isHalf = true → (l.take n).all isHalf = true := fun l n hl => by
    rw [List.all_eq_true] at hl ⊢
    exact fun x hx => hl x (List.mem_of_mem_take hx)
  have := crc_halves [83] (dE.take k) (O'.take k) (r1 ++ [59]) (by rw [List.length_take, List.length_take]; omega) (by rw [List.length_take]; omega) (hal _ _ (dig_half hdE)) (hal _ _ hO2) (by rw [ex, ey]; exact ec)
  rw [et, eo, this]

end Go.Proofs.YtjclpbaiiklhcaaGreatDoor
