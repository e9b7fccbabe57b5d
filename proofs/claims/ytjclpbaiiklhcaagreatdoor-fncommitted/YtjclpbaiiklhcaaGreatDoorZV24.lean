import Derived.Test.YtjclpbaiiklhcaaGreatDoorZV8
import Derived.Test.YtjclpbaiiklhcaaGreatDoorZOpenS
import Derived.Test.YtjclpbaiiklhcaaGreatDoorZV12
import Derived.Test.YtjclpbaiiklhcaaGreatDoorZV17
import Derived.Test.YtjclpbaiiklhcaaGreatDoorZPagesS
import Derived.Test.YtjclpbaiiklhcaaGreatDoorZV19
import Derived.Test.YtjclpbaiiklhcaaGreatDoorZV22
import Derived.Test.YtjclpbaiiklhcaaGreatDoorZV23
import Derived.Test.YtjclpbaiiklhcaaGreatDoorZV18
import Derived.Test.YtjclpbaiiklhcaaGreatDoorZV14
/- A page opens to what it was packed of; one changed byte of its body is told by the sum. -/
namespace Go.Proofs.YtjclpbaiiklhcaaGreatDoor
open Go.RowKit

theorem crcBit_inj {c d : Nat} (hc : c < 4294967296) (hd : d < 4294967296) (h : crcBit c = crcBit d) : c = d := by
  have top : ∀ x : Nat, x < 4294967296 → (((x / 2) ^^^ 3988292384).testBit 31) = true := fun x hx => by
    rw [Nat.testBit_xor, Nat.testBit_lt_two_pow (show x / 2 < 2 ^ 31 by omega)]
    decide
  have low : ∀ x : Nat, x < 4294967296 → (x / 2).testBit 31 = false := fun x hx => Nat.testBit_lt_two_pow (show x / 2 < 2 ^ 31 by omega)
  unfold crcBit at h
  by_cases h1 : c % 2 = 1
  · by_cases h2 : d % 2 = 1
    · rw [if_pos h1, if_pos h2] at h
      have e : c / 2 = d / 2 := by
        have := congrArg (· ^^^ 3988292384) h
        simpa [Nat.xor_assoc] using this
      omega
    · rw [if_pos h1, if_neg h2] at h
      have t := top c hc
      rw [h, low d hd] at t
      cases t
  · by_cases h2 : d % 2 = 1
    · rw [if_neg h1, if_pos h2] at h
      have t := top d hd
      rw [← h, low c hc] at t
      cases t
    · rw [if_neg h1, if_neg h2] at h
      omega
theorem crcBits_inj {c d : Nat} (hc : c < 4294967296) (hd : d < 4294967296) : ∀ k, crcBits k c = crcBits k d → c = d
  | 0, h => h
  | k + 1, h => crcBits_inj hc hd k (crcBit_inj (crcBits_lt hc k) (crcBits_lt hd k) h)
theorem xor_left {a b c : Nat} (h : a ^^^ b = a ^^^ c) : b = c := by
  have := congrArg (a ^^^ ·) h
  simpa [← Nat.xor_assoc] using this
theorem crcByte_state {c d : Nat} (hc : c < 4294967296) (hd : d < 4294967296) (b : UInt8) (h : crcByte c b = crcByte d b) : c = d := by
  have e := crcBits_inj (crcXor_lt hc b) (crcXor_lt hd b) 8 h
  rw [Nat.xor_comm c, Nat.xor_comm d] at e
  exact xor_left e
theorem crcByte_byte {c : Nat} (hc : c < 4294967296) {a b : UInt8} (h : crcByte c a = crcByte c b) : a = b :=
  UInt8.toNat_inj.1 (xor_left (crcBits_inj (crcXor_lt hc a) (crcXor_lt hc b) 8 h))
theorem crcFold_inj (l : List UInt8) : ∀ {c d : Nat}, c < 4294967296 → d < 4294967296 → l.foldl crcByte c = l.foldl crcByte d → c = d := by
  induction l with
  | nil => intro c d _ _ h; exact h
  | cons x r ih => intro c d hc hd h; exact crcByte_state hc hd x (ih (crcByte_lt hc x) (crcByte_lt hd x) h)
/-- Two texts that differ in one byte alone have other sums. -/
theorem crcL_byte (l r : List UInt8) {a b : UInt8} (h : crcL (l ++ a :: r) = crcL (l ++ b :: r)) : a = b := by
  unfold crcL at h
  rw [List.foldl_append, List.foldl_append, List.foldl_cons, List.foldl_cons] at h
  have hl : l.foldl crcByte 4294967295 < 4294967296 := crcL_lt l
  exact crcByte_byte hl (crcFold_inj r (crcByte_lt hl a) (crcByte_lt hl b) h)
theorem crcS_set (g : ByteArray) (l : List UInt8) (i : Nat) (x : UInt8) (hi : i < l.length) (h : crcS (g ++ bytesOf (l.set i x)) = crcS (g ++ bytesOf l)) : x = l[i] := by
  unfold crcS at h
  have e : ∀ m : List UInt8, (g ++ bytesOf m).data.toList = g.data.toList ++ m := fun m => by
    unfold bytesOf
    rw [ByteArray.data_append, Array.toList_append]
  rw [e, e] at h
  have h' : crcL (g.data.toList ++ l.set i x) = crcL (g.data.toList ++ l) := by omega
  have s1 : l.set i x = l.take i ++ x :: l.drop (i + 1) := List.set_eq_take_append_cons_drop (l := l) (i := i) (a := x) |>.trans (if_pos hi)
  have s2 : l = l.take i ++ l[i] :: l.drop (i + 1) := by
    rw [← List.drop_eq_getElem_cons hi, List.take_append_drop]
  rw [s1] at h'
  conv at h' => rhs; rw [s2]
  rw [← List.append_assoc, ← List.append_assoc] at h'
  exact crcL_byte _ _ h'

theorem body_ten (v : Int) (h0 : 0 ≤ v) (h1 : v ≤ 4294967295) : (bodyN (itoaB v)).length ≤ 10 := by
  have E : (itoaB v).data.toList = Lib.itoa v := by unfold itoaB; simp
  have EL : Lib.itoa v = Lib.decDigits v.toNat := by unfold Lib.itoa; rw [if_neg (by omega)]
  have := dec_len 9 v.toNat (by omega)
  have hb : (bodyN (itoaB v)).length ≤ (Lib.itoa v).length := by
    unfold bodyN
    rw [E, List.length_drop]
    omega
  rw [EL] at hb
  omega
/-- The text of a page with some sum. -/
def pageT (n e c : Int) (b : ByteArray) : ByteArray := ⟨#[80]⟩ ++ headS n e ++ itoaB c ++ semi ++ b
theorem packS_page (n e : Int) (b : ByteArray) : packS n e b = pageT n e (crcS (headS n e ++ b)) b := rfl
theorem pageT_list (n e c : Int) (b : ByteArray) : (pageT n e c b).data.toList = 80 :: ((itoaB n).data.toList ++ 59 :: ((itoaB e).data.toList ++ 59 :: ((itoaB c).data.toList ++ 59 :: b.data.toList))) := by
  unfold pageT headS semi
  simp [ByteArray.data_append, Array.toList_append]
theorem open_pageT (n e c : Int) (b : ByteArray) (hp : pgOk n e b = true) (h0 : 0 ≤ c) (h1 : c ≤ 4294967295) : openR (pageT n e c b) = if crcS (headS n e ++ b) = c then (n, e, b, 0) else (0, 0, ⟨#[]⟩, 4) := by
  obtain ⟨r1, r2, r3, r4, r5⟩ := pgOk_range hp
  have hl := pageT_list n e c b
  have hne : pageT n e c b ≠ ⟨#[]⟩ := fun hc => by rw [hc] at hl; simp at hl
  have hb : bytesOf b.data.toList = b := by unfold bytesOf; apply ByteArray.ext; simp
  have hf : formN (pageT n e c b).data.toList = some (n, e, c, b.data.toList) := by
    rw [hl]
    unfold formN
    rw [List.head?_cons, if_pos rfl, List.drop_succ_cons, List.drop_zero, cut_itoa n _ 9 (body_small n r1 (by omega))]
    simp only
    rw [cut_itoa e _ 9 (body_small e r3 r4)]
    simp only
    rw [cut_itoa c _ 10 (body_ten c h0 h1)]
  by_cases hc : crcS (headS n e ++ b) = c
  · rw [if_pos hc, openR_is hne hf (by rw [hb]; exact hp) (by rw [hb]; exact hc), hb]
  · rw [if_neg hc, openR_sum hne hf (by rw [hb]; exact hp) (by rw [hb]; exact hc)]
theorem open_pack (n e : Int) (b : ByteArray) (hp : pgOk n e b = true) : openR (packS n e b) = (n, e, b, 0) := by
  obtain ⟨h0, h1⟩ := crcS_range (headS n e ++ b)
  rw [packS_page, open_pageT n e _ b hp h0 h1, if_pos rfl]
/-- One byte of the body changed: the text does not open. -/
theorem open_bent (n e : Int) (b : ByteArray) (hp : pgOk n e b = true) (i : Nat) (hi : i < b.data.toList.length) (x : UInt8) (hx : x ≠ b.data.toList[i]) : (openR (pageT n e (crcS (headS n e ++ b)) (bytesOf (b.data.toList.set i x)))).2.2.2 = 4 := by
  obtain ⟨h0, h1⟩ := crcS_range (headS n e ++ b)
  have hb : bytesOf b.data.toList = b := by unfold bytesOf; apply ByteArray.ext; simp
  have hsz : (bytesOf (b.data.toList.set i x)).size = b.size := by
    show (b.data.toList.set i x).toArray.size = b.size
    rw [List.size_toArray, List.length_set, Array.length_toList]
    rfl
  have hp' : pgOk n e (bytesOf (b.data.toList.set i x)) = true := by
    unfold pgOk at hp ⊢
    rw [hsz]
    exact hp
  rw [open_pageT n e _ _ hp' h0 h1, if_neg]
  intro hc
  conv at hc => rhs; rw [← hb]
  exact hx (crcS_set _ _ i x hi hc)

end Go.Proofs.YtjclpbaiiklhcaaGreatDoor

/- A disk that holds a superblock and its pages reads as that superblock; with a page damaged, as none. -/
namespace Go.Proofs.YtjclpbaiiklhcaaGreatDoor
open Go.RowKit

def bodyT : ByteArray := ⟨#[98, 111, 100, 121]⟩
def dmgT : ByteArray := ⟨#[100, 97, 109, 97, 103, 101, 100]⟩
def pgN (e : Int) (i : Nat) : ByteArray := packT i (e - e / 2) bodyT
def dkL (e : Int) (l : List Int) : Nat → List ByteArray
  | 0 => Disk.es64
  | k + 1 => (dkL e l k).set (l.getD k 0).toNat (pgN e k)
def dkS (e : Int) (l : List Int) : List ByteArray := (dkL e l l.length).set (e % 2).toNat (supT e l)

theorem dkL_len (e : Int) (l : List Int) : ∀ k, (dkL e l k).length = 64
  | 0 => List.length_replicate ..
  | k + 1 => by rw [dkL, List.length_set]; exact dkL_len e l k
theorem dkL_fit (e : Int) (l : List Int) : ∀ k, ∀ s ∈ dkL e l k, s.size ≤ 256
  | 0 => fun s hs => by
    obtain ⟨_, rfl⟩ := List.mem_replicate.1 hs
    exact Nat.zero_le _
  | k + 1 => fit_set (dkL_fit e l k) (packT_fit _ _ _)
theorem dkS_len (e : Int) (l : List Int) : (dkS e l).length = 64 := by unfold dkS; rw [List.length_set]; exact dkL_len _ _ _
theorem dkS_fit (e : Int) (l : List Int) : ∀ s ∈ dkS e l, s.size ≤ 256 := fit_set (dkL_fit e l _) (supT_fit _ _)
theorem getD_set_ne {ss : List ByteArray} {i j : Nat} {t : ByteArray} (h : i ≠ j) : (ss.set i t).getD j ByteArray.empty = ss.getD j ByteArray.empty := by
  rw [List.getD_eq_getElem?_getD, List.getElem?_set_ne h, ← List.getD_eq_getElem?_getD]
theorem getD_set_self {ss : List ByteArray} {i : Nat} {t : ByteArray} (h : i < ss.length) : (ss.set i t).getD i ByteArray.empty = t := by
  rw [List.getD_eq_getElem?_getD, List.getElem?_set_self h]
  rfl
theorem dkL_low (e : Int) (l : List Int) (j : Nat) (hj : j < 2) : ∀ k, (∀ i, i < k → 2 ≤ l.getD i 0) → (dkL e l k).getD j ByteArray.empty = ByteArray.empty
  | 0, _ => by
    show (List.replicate 64 ByteArray.empty).getD j ByteArray.empty = ByteArray.empty
    rw [List.getD_eq_getElem?_getD, List.getElem?_replicate]
    split <;> rfl
  | k + 1, h => by
    have := h k (Nat.lt_succ_self _)
    rw [dkL, getD_set_ne (by omega)]
    exact dkL_low e l j hj k (fun i hi => h i (Nat.lt_succ_of_lt hi))
theorem row_ne {l : List Int} {i k : Nat} (h : goodAt l k = true) (hi : i < k) (hk : k < l.length) : l.getD i 0 ≠ l.getD k 0 := by
  intro e
  unfold goodAt at h
  rw [Bool.and_eq_true] at h
  have h2 := h.2
  rw [Bool.not_eq_true'] at h2
  have : l.getD k 0 ∈ l.take k := by
    rw [← e, List.getD_eq_getElem?_getD, List.getElem?_eq_getElem (by omega)]
    exact List.mem_take_iff_getElem.2 ⟨i, by omega, rfl⟩
  rw [List.contains_iff_mem.2 this] at h2
  cases h2
theorem dkL_at (e : Int) (l : List Int) (i : Nat) : ∀ k, rowOk l k = true → k ≤ l.length → i < k → (dkL e l k).getD (l.getD i 0).toNat ByteArray.empty = pgN e i
  | 0, _, _, hi => absurd hi (Nat.not_lt_zero _)
  | k + 1, h, hk, hi => by
    have gk := rowOk_mem h k (Nat.lt_succ_self _)
    have rk := goodAt_range gk
    by_cases e1 : i = k
    · subst e1
      rw [dkL, getD_set_self (by rw [dkL_len]; omega)]
    · have gi := goodAt_range (rowOk_mem h i hi)
      have ne := row_ne gk (by omega : i < k) (by omega)
      rw [rowOk_succ, Bool.and_eq_true] at h
      rw [dkL, getD_set_ne (by omega)]
      exact dkL_at e l i k h.1 (by omega) (by omega)
theorem pgOk_body {e : Int} {i : Nat} (h0 : 1 ≤ e) (h1 : e ≤ 999999999) (hi : i < 30) : pgOk i (e - e / 2) bodyT = true := by
  unfold pgOk
  rw [decide_eq_true (by omega), decide_eq_true (by omega), decide_eq_true (by decide)]
  rfl
theorem open_pg {e : Int} {i : Nat} (h0 : 1 ≤ e) (h1 : e ≤ 999999999) (hi : i < 30) : openR (pgN e i) = ((i : Int), e - e / 2, bodyT, 0) := by
  have h := pgOk_body h0 h1 hi
  unfold pgN packT
  rw [if_pos h]
  exact open_pack _ _ _ h
theorem open_dmg : (openR dmgT).2.2.2 ≠ 0 := by
  have h : formN dmgT.data.toList = none := by
    unfold formN
    rw [if_neg (by decide)]
  unfold openR
  rw [if_neg (by decide), h]
  decide
theorem supR_empty : supR ByteArray.empty = none := supR_head (by decide)
theorem sups_sound {e : Int} {l : List Int} (h : supOk e l = true) : soundB (dkS e l) e l l.length = true := by
  obtain ⟨p1, p2, p3, p4⟩ := supOk_parts h
  unfold soundB
  rw [List.all_eq_true]
  intro i hi
  have hi' := List.mem_range.1 hi
  have gi := goodAt_range (rowOk_mem p4 i hi')
  have pa : pageAt (dkS e l) l i = ((i : Int), e - e / 2, bodyT, 0) := by
    unfold pageAt dkS
    rw [getD_set_ne (by omega), dkL_at e l i l.length p4 (Nat.le_refl _) hi']
    exact open_pg p1 p2 (by omega)
  unfold soundAt
  rw [pa]
  simp
  omega
theorem newR_dk {e : Int} {l : List Int} (h : supOk e l = true) : newR (dkS e l) = (e, l) := by
  obtain ⟨p1, p2, p3, p4⟩ := supOk_parts h
  have hlow : ∀ i, i < l.length → 2 ≤ l.getD i 0 := fun i hi => (goodAt_range (rowOk_mem p4 i hi)).1
  have S1 : orNone (superR (dkS e l) (supT e l)) = (e, l) := by
    unfold superR
    rw [supR_supT h]
    show orNone (if soundB (dkS e l) e l l.length = true then some (e, l) else none) = (e, l)
    rw [if_pos (sups_sound h)]
    rfl
  have S0 : orNone (superR (dkS e l) ByteArray.empty) = (0, []) := by
    unfold superR
    rw [supR_empty]
    rfl
  have hm : e % 2 = 0 ∨ e % 2 = 1 := by omega
  unfold newR
  rcases hm with hm | hm
  · have t0 : textAt (dkS e l) 0 = supT e l := by
      unfold textAt dkS
      rw [hm]
      exact getD_set_self (by rw [dkL_len]; decide)
    have t1 : textAt (dkS e l) 1 = ByteArray.empty := by
      unfold textAt dkS
      rw [hm, getD_set_ne (by decide)]
      exact dkL_low e l 1 (by omega) _ hlow
    rw [t0, t1, S0, S1, if_neg (by simp; omega)]
  · have t1 : textAt (dkS e l) 1 = supT e l := by
      unfold textAt dkS
      rw [hm]
      exact getD_set_self (by rw [dkL_len]; decide)
    have t0 : textAt (dkS e l) 0 = ByteArray.empty := by
      unfold textAt dkS
      rw [hm, getD_set_ne (by decide)]
      exact dkL_low e l 0 (by omega) _ hlow
    rw [t0, t1, S0, S1, if_pos (by simp; omega)]
theorem newestR_dk {e : Int} {l : List Int} (h : supOk e l = true) : newestR (dkS e l) [] = (e, l) := by
  unfold newestR
  rw [if_pos (okD_mk (dkS_len e l) (by simp) (dkS_fit e l) (fun x hx => by cases hx))]
  exact newR_dk h
theorem newestR_dmg {e : Int} {l : List Int} (h : supOk e l = true) (p : Nat) (hp : p < l.length) : (newestR ((dkS e l).set (l.getD p 0).toNat dmgT) []).1 = 0 := by
  obtain ⟨p1, p2, p3, p4⟩ := supOk_parts h
  have hlow : ∀ i, i < l.length → 2 ≤ l.getD i 0 := fun i hi => (goodAt_range (rowOk_mem p4 i hi)).1
  have gp := goodAt_range (rowOk_mem p4 p hp)
  have S1 : orNone (superR ((dkS e l).set (l.getD p 0).toNat dmgT) (supT e l)) = (0, []) := by
    have ns : soundAt ((dkS e l).set (l.getD p 0).toNat dmgT) e l p = false := by
      have pa : pageAt ((dkS e l).set (l.getD p 0).toNat dmgT) l p = openR dmgT := by
        unfold pageAt
        rw [getD_set_self (by rw [dkS_len]; omega)]
      unfold soundAt
      rw [pa, decide_eq_false open_dmg]
      rfl
    unfold superR
    rw [supR_supT h]
    show orNone (if soundB ((dkS e l).set (l.getD p 0).toNat dmgT) e l l.length = true then some (e, l) else none) = (0, [])
    rw [if_neg (by rw [soundB_false ns hp]; decide)]
    rfl
  have S0 : orNone (superR ((dkS e l).set (l.getD p 0).toNat dmgT) ByteArray.empty) = (0, []) := by
    unfold superR
    rw [supR_empty]
    rfl
  have hm : e % 2 = 0 ∨ e % 2 = 1 := by omega
  unfold newestR
  rw [if_pos (okD_mk (by rw [List.length_set]; exact dkS_len e l) (by simp) (fit_set (dkS_fit e l) (by decide)) (fun x hx => by cases hx))]
  unfold newR
  rcases hm with hm | hm
  · have t0 : textAt ((dkS e l).set (l.getD p 0).toNat dmgT) 0 = supT e l := by
      unfold textAt
      rw [getD_set_ne (by omega)]
      unfold dkS
      rw [hm]
      exact getD_set_self (by rw [dkL_len]; decide)
    have t1 : textAt ((dkS e l).set (l.getD p 0).toNat dmgT) 1 = ByteArray.empty := by
      unfold textAt
      rw [getD_set_ne (by omega)]
      unfold dkS
      rw [hm, getD_set_ne (by decide)]
      exact dkL_low e l 1 (by omega) _ hlow
    rw [t0, t1, S0, S1]
    rfl
  · have t1 : textAt ((dkS e l).set (l.getD p 0).toNat dmgT) 1 = supT e l := by
      unfold textAt
      rw [getD_set_ne (by omega)]
      unfold dkS
      rw [hm]
      exact getD_set_self (by rw [dkL_len]; decide)
    have t0 : textAt ((dkS e l).set (l.getD p 0).toNat dmgT) 0 = ByteArray.empty := by
      unfold textAt
      rw [getD_set_ne (by omega)]
      unfold dkS
      rw [hm, getD_set_ne (by decide)]
      exact dkL_low e l 0 (by omega) _ hlow
    rw [t0, t1, S0, S1]
    rfl

end Go.Proofs.YtjclpbaiiklhcaaGreatDoor

/- After a commit the newest superblock is the commit's own, and the pages read as the bodies that were handed in. -/
namespace Go.Proofs.YtjclpbaiiklhcaaGreatDoor
open Go.RowKit

theorem done_snoc (ss : List ByteArray) (ws : List Disk.Wr) (x : Disk.Wr) : doneS ss (ws ++ [x]) = (doneS ss ws).set x.1.toNat x.2 := by
  unfold doneS
  rw [List.foldl_append]
  rfl
/-- A sector that no write names stays. -/
theorem done_off (ws : List Disk.Wr) (j : Nat) : ∀ (ss : List ByteArray), (∀ x ∈ ws, x.1.toNat ≠ j) → (doneS ss ws).getD j ByteArray.empty = ss.getD j ByteArray.empty := by
  induction ws with
  | nil => intro ss _; rfl
  | cons x ws ih =>
    intro ss h
    show (doneS (ss.set x.1.toNat x.2) ws).getD j ByteArray.empty = _
    rw [ih _ (fun y hy => h y (List.mem_cons_of_mem _ hy)), getD_set_ne (h x (List.mem_cons_self ..))]
/-- The writes of the pages name free sectors, in their order. -/
theorem scr_free (l : List Int) (old bs : List ByteArray) (e1 : Int) : ∀ k, ∀ x ∈ (scrK l old bs e1 k).1, x.1 ∈ (freeL l).take (scrK l old bs e1 k).1.length ∨ (freeL l).length ≤ (scrK l old bs e1 k).1.length
  | 0 => fun x hx => by cases hx
  | k + 1 => fun x hx => by
    cases h : sameB old bs k
    · rw [scr_new h] at hx ⊢
      simp only [List.length_append, List.length_cons, List.length_nil, Nat.zero_add] at hx ⊢
      by_cases hl : (freeL l).length ≤ (scrK l old bs e1 k).1.length
      · exact .inr (by omega)
      · rcases List.mem_append.1 hx with hx | hx
        · rcases scr_free l old bs e1 k x hx with h1 | h1
          · exact .inl (List.mem_of_mem_take (i := (scrK l old bs e1 k).1.length) (by rw [List.take_take, Nat.min_eq_left (Nat.le_succ _)]; exact h1))
          · exact absurd h1 hl
        · rw [List.mem_singleton.1 hx]
          exact .inl (take_mem (by omega) (by omega))
    · rw [scr_same h] at hx ⊢
      exact scr_free l old bs e1 k x hx
theorem scr_room (l : List Int) (old bs : List ByteArray) (e1 : Int) (hl : l.length ≤ 30) (k : Nat) (hk : k ≤ 31) : (scrK l old bs e1 k).1.length < (freeL l).length := by
  have := freeL_length l
  have := (scr_len l old bs e1 k).2
  omega
theorem newR_le (ss : List ByteArray) : (newR ss).1 ≤ lastE ss := by
  have h0 := lastE_range ss
  rcases newR_super ss with h | ⟨t, ht, h⟩
  · rw [h]; exact h0.1
  · obtain ⟨_, h2, _⟩ := superR_pos (e := (newR ss).1) (l := (newR ss).2) h
    have e : (orNone (supR t)).1 = (newR ss).1 := by rw [h2]; rfl
    unfold lastE
    rcases ht with rfl | rfl <;> omega
/-- Page i of the newest superblock. -/
theorem newR_page (ss : List ByteArray) (i : Nat) (hi : i < (newR ss).2.length) : ∃ E, openR (ss.getD ((newR ss).2.getD i 0).toNat ByteArray.empty) = ((i : Int), E, (oldB ss).getD i ByteArray.empty, 0) ∧ E ≤ lastE ss := by
  have hb : (oldB ss).getD i ByteArray.empty = (pageAt ss (newR ss).2 i).2.2.1 := by
    unfold oldB bodiesK
    rw [List.getD_eq_getElem?_getD, List.getElem?_map, List.getElem?_range hi]
    rfl
  have hle := newR_le ss
  rcases newR_super ss with h | ⟨t, _, h⟩
  · rw [h] at hi; exact absurd hi (Nat.not_lt_zero _)
  · obtain ⟨_, _, h3⟩ := superR_pos (e := (newR ss).1) (l := (newR ss).2) h
    have s := List.all_eq_true.1 h3 i (List.mem_range.2 hi)
    unfold soundAt at s
    rw [Bool.and_eq_true, Bool.and_eq_true] at s
    have s1 := of_decide_eq_true s.1.1
    have s2 := of_decide_eq_true s.1.2
    have s3 := of_decide_eq_true s.2
    refine ⟨(pageAt ss (newR ss).2 i).2.1, ?_, by omega⟩
    rw [hb]
    show pageAt ss (newR ss).2 i = _
    generalize pageAt ss (newR ss).2 i = p at *
    obtain ⟨p1, p2, p3, p4⟩ := p
    simp only at s1 s2
    rw [s1, s2]

theorem pgOk_mk {n e : Int} {b : ByteArray} (h0 : 0 ≤ n) (h1 : n ≤ 29) (h2 : 0 ≤ e) (h3 : e ≤ 999999999) (h4 : b.size ≤ 200) : pgOk n e b = true := by
  unfold pgOk
  rw [decide_eq_true ⟨h0, h1⟩, decide_eq_true ⟨h2, h3⟩, decide_eq_true h4]
  rfl
theorem toNat_ne {a b : Int} (ha : 0 ≤ a) (hb : 0 ≤ b) (h : a ≠ b) : a.toNat ≠ b.toNat := by omega
theorem scr_off (ss bs : List ByteArray) (k : Nat) (hk : k ≤ 31) (y : Int) (hy : y ∈ (newR ss).2 ∨ y < 2) (y0 : 0 ≤ y) : ∀ x ∈ (scrP ss bs k).1, x.1.toNat ≠ y.toNat := fun x hx => by
  have room := scr_room (newR ss).2 (oldB ss) bs (lastE ss + 1) (newR_ok ss).2 k hk
  rcases scr_free (newR ss).2 (oldB ss) bs (lastE ss + 1) k x hx with h | h
  · have hm := (freeL_mem (newR ss).2 x.1).1 (List.mem_of_mem_take h)
    refine toNat_ne (by omega) y0 (fun e => ?_)
    rcases hy with hy | hy
    · exact hm.2 (e ▸ hy)
    · omega
  · omega
/-- After the page writes, each sector of the new list holds its page. -/
theorem scr_pages (ss bs : List ByteArray) (h64 : ss.length = 64) (hb : bs.length ≤ 30) (hf : fitB bs = true) (he : lastE ss ≤ 999999998) : ∀ k, k ≤ bs.length → ∀ i, i < k →
    ∃ E, openR ((doneS ss (scrP ss bs k).1).getD ((scrP ss bs k).2.getD i 0).toNat ByteArray.empty) = ((i : Int), E, bs.getD i ByteArray.empty, 0) ∧ E ≤ lastE ss + 1
  | 0, _, i, hi => absurd hi (Nat.not_lt_zero i)
  | k + 1, hk, i, hi => by
    have h0 := lastE_range ss
    obtain ⟨r1, r2⟩ := newR_ok ss
    have sl := scr_len (newR ss).2 (oldB ss) bs (lastE ss + 1) k
    have room := scr_room (newR ss).2 (oldB ss) bs (lastE ss + 1) r2 k (by omega)
    have inv := (scr_inv (newR ss).2 (oldB ss) bs (lastE ss + 1) r1 r2 (oldB_length ss) k (by omega)).2
    have ih := scr_pages ss bs h64 hb hf he k (by omega) i
    have off := scr_off ss bs k (by omega)
    cases h : sameB (oldB ss) bs k
    · have e : scrP ss bs (k + 1) = _ := scr_new h
      rw [e]
      by_cases hik : i < k
      · obtain ⟨E, hE, hE2⟩ := ih hik
        refine ⟨E, ?_, hE2⟩
        have fr := freeL_range (newR ss).2 room
        have ne : (scrK (newR ss).2 (oldB ss) bs (lastE ss + 1) k).2.getD i 0 ≠ (freeL (newR ss).2).getD (scrK (newR ss).2 (oldB ss) bs (lastE ss + 1) k).1.length 0 := fun hh => by
          rcases inv i hik with ⟨a, b⟩ | a
          · exact fr.2.2 (by rw [← hh, b]; exact at_mem a)
          · exact freeL_new (newR ss).2 room (by rw [← hh]; exact a)
        have pos : 0 ≤ (scrK (newR ss).2 (oldB ss) bs (lastE ss + 1) k).2.getD i 0 := by
          have ro := (scr_inv (newR ss).2 (oldB ss) bs (lastE ss + 1) r1 r2 (oldB_length ss) k (by omega)).1
          have := (rowOk_at ro hik).1
          omega
        show openR ((doneS ss (_ ++ [_])).getD (((_ : List Int) ++ [_]).getD i 0).toNat ByteArray.empty) = _
        rw [snoc_at (by rw [sl.1]; exact hik), done_snoc, getD_set_ne (fun hh => toNat_ne pos (by omega) ne hh.symm)]
        exact hE
      · obtain rfl : i = k := by omega
        have fr := freeL_range (newR ss).2 room
        refine ⟨lastE ss + 1, ?_, Int.le_refl _⟩
        have pk := pgOk_mk (n := (i : Int)) (e := lastE ss + 1) (b := bs.getD i ByteArray.empty) (by omega) (by omega) (by omega) (by omega) (fitB_at hf (by omega))
        show openR ((doneS ss (_ ++ [_])).getD (((_ : List Int) ++ [_]).getD i 0).toNat ByteArray.empty) = _
        have sn : ((scrK (newR ss).2 (oldB ss) bs (lastE ss + 1) i).2 ++ [(freeL (newR ss).2).getD (scrK (newR ss).2 (oldB ss) bs (lastE ss + 1) i).1.length 0]).getD i 0 = (freeL (newR ss).2).getD (scrK (newR ss).2 (oldB ss) bs (lastE ss + 1) i).1.length 0 := by
          have := snoc_last (l := (scrK (newR ss).2 (oldB ss) bs (lastE ss + 1) i).2) (y := (freeL (newR ss).2).getD (scrK (newR ss).2 (oldB ss) bs (lastE ss + 1) i).1.length 0)
          rw [sl.1] at this
          exact this
        rw [sn, done_snoc, getD_set_self (by rw [doneS_length, h64]; show ((freeL (newR ss).2).getD _ 0).toNat < 64; omega)]
        show openR (packT i (lastE ss + 1) (bs.getD i ByteArray.empty)) = _
        unfold packT
        rw [if_pos pk]
        exact open_pack _ _ _ pk
    · have e : scrP ss bs (k + 1) = _ := scr_same h
      rw [e]
      by_cases hik : i < k
      · obtain ⟨E, hE, hE2⟩ := ih hik
        refine ⟨E, ?_, hE2⟩
        show openR ((doneS ss _).getD (((_ : List Int) ++ [_]).getD i 0).toNat ByteArray.empty) = _
        rw [snoc_at (by rw [sl.1]; exact hik)]
        exact hE
      · obtain rfl : i = k := by omega
        unfold sameB at h
        rw [Bool.and_eq_true] at h
        have hl := of_decide_eq_true h.1
        have hq := of_decide_eq_true h.2
        rw [oldB_length] at hl
        obtain ⟨E, hE, hE2⟩ := newR_page ss i hl
        refine ⟨E, ?_, by omega⟩
        have sn : ((scrK (newR ss).2 (oldB ss) bs (lastE ss + 1) i).2 ++ [(newR ss).2.getD i 0]).getD i 0 = (newR ss).2.getD i 0 := by
          have := snoc_last (l := (scrK (newR ss).2 (oldB ss) bs (lastE ss + 1) i).2) (y := (newR ss).2.getD i 0)
          rw [sl.1] at this
          exact this
        have gi := goodAt_range (rowOk_mem r1 i hl)
        show openR ((doneS ss _).getD (((_ : List Int) ++ [_]).getD i 0).toNat ByteArray.empty) = _
        rw [sn]
        show openR ((doneS ss (scrP ss bs i).1).getD ((newR ss).2.getD i 0).toNat ByteArray.empty) = _
        rw [done_off _ _ _ (off _ (.inl (at_mem hl)) (by omega)), hE, hq]

theorem scrW_done (ss bs : List ByteArray) : doneS ss (scrW ss bs) = (doneS ss (scrP ss bs bs.length).1).set ((lastE ss + 1) % 2).toNat (supT (lastE ss + 1) (scrP ss bs bs.length).2) := by
  unfold scrW
  rw [done_snoc]
theorem scrP_len (ss bs : List ByteArray) : (scrP ss bs bs.length).2.length = bs.length := (scr_len _ _ _ _ _).1
theorem commit_page {ss bs : List ByteArray} {ws : List Disk.Wr} (h : scrOk ss ws bs = true) (i : Nat) (hi : i < bs.length) :
    ∃ E, pageAt (doneS ss (scrW ss bs)) (scrP ss bs bs.length).2 i = ((i : Int), E, bs.getD i ByteArray.empty, 0) ∧ E ≤ lastE ss + 1 := by
  obtain ⟨o1, o2, o3, o4⟩ := scrOk_parts h
  have h0 := lastE_range ss
  obtain ⟨E, hE, hE2⟩ := scr_pages ss bs (okD_len64 o1) o2 o3 o4 bs.length (Nat.le_refl _) i hi
  have so := supOk_parts (scrP_ok ss bs o2 o4)
  have g := goodAt_range (rowOk_mem so.2.2.2 i (by rw [scrP_len]; exact hi))
  refine ⟨E, ?_, hE2⟩
  unfold pageAt
  rw [scrW_done, getD_set_ne (by omega)]
  exact hE
theorem commit_other {ss bs : List ByteArray} {ws : List Disk.Wr} (h : scrOk ss ws bs = true) (j : Nat) (hj : j < 2) (hne : ((lastE ss + 1) % 2).toNat ≠ j) : textAt (doneS ss (scrW ss bs)) j = textAt ss j := by
  obtain ⟨o1, o2, o3, o4⟩ := scrOk_parts h
  unfold textAt
  rw [scrW_done, getD_set_ne hne]
  refine done_off _ _ _ (fun x hx => ?_)
  have := scr_off ss bs bs.length (by omega) (j : Int) (.inr (by omega)) (by omega) x hx
  rwa [Int.toNat_natCast] at this
theorem orSuper_le (ss : List ByteArray) (t : ByteArray) : (orNone (superR ss t)).1 ≤ (orNone (supR t)).1 := by
  rw [superR_or]
  split
  · exact Int.le_refl _
  · exact (or_epoch t).1
/-- The newest superblock behind a commit. -/
theorem newR_commit {ss bs : List ByteArray} {ws : List Disk.Wr} (h : scrOk ss ws bs = true) : newR (doneS ss (scrW ss bs)) = (lastE ss + 1, (scrP ss bs bs.length).2) := by
  obtain ⟨o1, o2, o3, o4⟩ := scrOk_parts h
  have h0 := lastE_range ss
  have ok := scrP_ok ss bs o2 o4
  have snd : soundB (doneS ss (scrW ss bs)) (lastE ss + 1) (scrP ss bs bs.length).2 (scrP ss bs bs.length).2.length = true := by
    unfold soundB
    rw [List.all_eq_true]
    intro i hi
    have hi' := List.mem_range.1 hi
    rw [scrP_len] at hi'
    obtain ⟨E, hE, hE2⟩ := commit_page h i hi'
    unfold soundAt
    rw [hE]
    simp
    exact hE2
  have S1 : orNone (superR (doneS ss (scrW ss bs)) (supT (lastE ss + 1) (scrP ss bs bs.length).2)) = (lastE ss + 1, (scrP ss bs bs.length).2) := by
    unfold superR
    rw [supR_supT ok]
    show orNone (if soundB (doneS ss (scrW ss bs)) (lastE ss + 1) (scrP ss bs bs.length).2 (scrP ss bs bs.length).2.length = true then some (lastE ss + 1, (scrP ss bs bs.length).2) else none) = _
    rw [if_pos snd]
    rfl
  have tx : textAt (doneS ss (scrW ss bs)) ((lastE ss + 1) % 2).toNat = supT (lastE ss + 1) (scrP ss bs bs.length).2 := by
    unfold textAt
    rw [scrW_done]
    exact getD_set_self (by rw [doneS_length, okD_len64 o1]; omega)
  have l0 : (orNone (supR (textAt ss 0))).1 ≤ lastE ss := by unfold lastE; omega
  have l1 : (orNone (supR (textAt ss 1))).1 ≤ lastE ss := by unfold lastE; omega
  have hm : (lastE ss + 1) % 2 = 0 ∨ (lastE ss + 1) % 2 = 1 := by omega
  rcases hm with hm | hm
  · have t1 := commit_other h 1 (by omega) (by rw [hm]; decide)
    rw [hm] at tx
    have t0 : textAt (doneS ss (scrW ss bs)) 0 = supT (lastE ss + 1) (scrP ss bs bs.length).2 := tx
    have := orSuper_le (doneS ss (scrW ss bs)) (textAt ss 1)
    rw [newR_no (by rw [t0, t1, S1]; show ¬ lastE ss + 1 < _; omega), t0, S1]
  · have t0 := commit_other h 0 (by omega) (by rw [hm]; decide)
    rw [hm] at tx
    have t1 : textAt (doneS ss (scrW ss bs)) 1 = supT (lastE ss + 1) (scrP ss bs bs.length).2 := tx
    have := orSuper_le (doneS ss (scrW ss bs)) (textAt ss 0)
    rw [newR_yes (by rw [t0, t1, S1]; show _ < lastE ss + 1; omega), t1, S1]
theorem commit_okD {ss bs : List ByteArray} {ws : List Disk.Wr} (h : scrOk ss ws bs = true) : Disk.okD (doneS ss (scrW ss bs)) [] = true :=
  okD_done (scrOk_parts h).1 (by simp) (fun x hx => by cases hx) (scrW_okW ss bs (scrOk_parts h).2.1)
theorem newest_commit {ss bs : List ByteArray} {ws : List Disk.Wr} (h : scrOk ss ws bs = true) : newestR (doneS ss (scrW ss bs)) [] = (lastE ss + 1, (scrP ss bs bs.length).2) := by
  unfold newestR
  rw [if_pos (commit_okD h), newR_commit h]
theorem bodies_commit {ss bs : List ByteArray} {ws : List Disk.Wr} (h : scrOk ss ws bs = true) : bodiesK (doneS ss (scrW ss bs)) (scrP ss bs bs.length).2 (scrP ss bs bs.length).2.length = bs := by
  rw [scrP_len]
  apply List.ext_getElem?
  intro i
  unfold bodiesK
  rw [List.getElem?_map]
  by_cases hi : i < bs.length
  · obtain ⟨E, hE, _⟩ := commit_page h i hi
    rw [List.getElem?_range hi, Option.map_some, hE, List.getElem?_eq_getElem hi]
    simp [hi]
  · rw [List.getElem?_eq_none (by rw [List.length_range]; omega), List.getElem?_eq_none (by omega)]
    rfl
/-- The pages behind a commit are the bodies handed in. -/
theorem pages_commit {ss bs : List ByteArray} {ws : List Disk.Wr} (h : scrOk ss ws bs = true) : pagesR (doneS ss (scrW ss bs)) [] = bs := by
  unfold pagesR
  rw [newest_commit h]
  exact bodies_commit h
theorem newest_less {ss bs : List ByteArray} {ws : List Disk.Wr} (h : scrOk ss ws bs = true) : (newestR ss ws).1 < lastE ss + 1 := by
  unfold newestR
  rw [if_pos (scrOk_parts h).1]
  have := newR_le ss
  omega
theorem scr_all (l : List Int) (bs : List ByteArray) (e1 : Int) (hl : l.length = bs.length) : ∀ k, k ≤ bs.length → scrK l bs bs e1 k = ([], l.take k)
  | 0, _ => rfl
  | k + 1, hk => by
    have s : sameB bs bs k = true := by
      unfold sameB
      rw [decide_eq_true (by omega), decide_eq_true rfl]
      rfl
    rw [scr_same s, scr_all l bs e1 hl k (by omega), take_snoc_free (by omega)]
/-- The same bodies again: the superblock alone is written. -/
theorem script_again {ss bs : List ByteArray} {ws : List Disk.Wr} (h : scrOk ss ws bs = true) : (scrW (doneS ss (scrW ss bs)) bs).length = 1 := by
  have ho : oldB (doneS ss (scrW ss bs)) = bs := by
    unfold oldB
    rw [newR_commit h]
    exact bodies_commit h
  unfold scrW
  rw [List.length_append]
  have : (scrP (doneS ss (scrW ss bs)) bs bs.length).1 = [] := by
    unfold scrP
    rw [ho, newR_commit h]
    rw [scr_all _ _ _ (scrP_len ss bs) bs.length (Nat.le_refl _)]
  unfold scrW at this
  rw [this]
  rfl

end Go.Proofs.YtjclpbaiiklhcaaGreatDoor

/- The walk of the law FnCommitted. -/
namespace Go.Proofs.YtjclpbaiiklhcaaGreatDoor
open Go.RowKit

theorem capS_of {ao : Option Addr} {n cap : Nat} (h : Disk.CapS (.slice ao n cap)) : n ≤ cap := h.le
theorem hcp_of {v : Value} {w : World} {ss : List ByteArray} (h : Disk.SR w v ss) (c : Disk.CapS v) : ∃ ao cap, v = .slice ao ss.length cap ∧ ss.length ≤ cap := by
  obtain ⟨ao, cap, rfl, _⟩ := h
  exact ⟨ao, cap, rfl, c.le⟩
/-- Commit of the program, where the slice is a letter. -/
theorem implCommit_val (v1 v2 bv : Value) (ss : List ByteArray) (ws : List Disk.Wr) (bs : List ByteArray) (a0 a1 a2 a3 : Addr) (tg : TypeId) (pg : Value) (w : World) (c : Disk.CapS v1)
    (hv1 : Disk.SR w v1 ss) (hv2 : Disk.WR w v2 ws) (h1 : ss.length ≤ 10000000000000) (h2 : ws.length ≤ 10000000000000) (hbv : Disk.SR w bv bs) (h3 : bs.length ≤ 10000000000000) (hC : Ctx a0 a1 a2 a3 w) (hG : w.cell? ⟨0, 0, none⟩ = some (.iface tg pg)) :
    Calls Tryz.prog 7 #[.agg #[v1, v2], bv] w fun e w' => ∃ u1 u2, e = .returned (.tuple #[.agg #[u1, u2], .bool (scrOk ss ws bs)]) ∧ Disk.ND w.heap.size w' u1 u2 (commitS ss ws bs) [] ∧ Below w.heap.size w w' ∧ Disk.CapS u1 := by
  obtain ⟨ao, cap, rfl, hle⟩ := hcp_of hv1 c
  exact implCommit_cap ao cap v2 bv ss ws bs a0 a1 a2 a3 tg pg w hv1 hle hv2 h1 h2 hbv h3 hC hG
theorem implScript_val (v1 v2 bv : Value) (ss : List ByteArray) (ws : List Disk.Wr) (bs : List ByteArray) (a0 a1 a2 a3 : Addr) (tg : TypeId) (pg : Value) (w : World) (c : Disk.CapS v1)
    (hv1 : Disk.SR w v1 ss) (hv2 : Disk.WR w v2 ws) (h1 : ss.length ≤ 10000000000000) (h2 : ws.length ≤ 10000000000000) (hbv : Disk.SR w bv bs) (h3 : bs.length ≤ 10000000000000) (hC : Ctx a0 a1 a2 a3 w) (hG : w.cell? ⟨0, 0, none⟩ = some (.iface tg pg)) :
    Calls Tryz.prog 10 #[.agg #[v1, v2], bv] w fun x w' => (∃ v, x = .returned v ∧ Disk.NW w.heap.size w' v (scriptR ss ws bs)) ∧ Below w.heap.size w w' := by
  obtain ⟨ao, cap, rfl, hle⟩ := hcp_of hv1 c
  exact implScript_any ao cap v2 bv ss ws bs a0 a1 a2 a3 tg pg w hv1 hle hv2 h1 h2 hbv h3 hC hG
theorem sr_text {w : World} {B : Nat} {v : Value} {ss : List ByteArray} (h : w.ownsRow B 9 1 v ss.length (tcells ss)) : Disk.SR w v ss := (ns_of_own h).2.1

set_option maxRecDepth 100000 in
set_option maxHeartbeats 12000000 in
theorem lawCommitted_any (cv : Value) (cs : List UInt8) (a0 a1 a2 a3 : Addr) (tg : TypeId) (pg : Value) (w : World) (hc : BR w cv cs) (hC : Ctx a0 a1 a2 a3 w) (hG : w.cell? ⟨0, 0, none⟩ = some (.iface tg pg)) :
    Calls Tryz.prog 3 #[cv] w fun x w' => x = .returned (.bool true) ∧ Below w.heap.size w w' := by
  have BG := big_any cv cs w hc
  by_cases hbig : 4096 < cs.length
  · rw [decide_eq_true hbig] at BG
    go_enter Tryz.func3, Tryz.ntmps3
    go_wp2_with (go_at_call 5; refine BG.mono ?_; rintro x w' ⟨rfl, rfl⟩)
    go_ret
    exact ⟨rfl, Below.refl _ _⟩
  rw [decide_eq_false hbig] at BG
  have DP := drawCommit_any cv cs w hc (by omega)
  go_enter Tryz.func3, Tryz.ntmps3
  go_wp2_with fail
  refine BG.mono ?_
  rintro x w0 ⟨rfl, rfl⟩
  clear BG
  go_wp2_with fail
  refine DP.mono ?_
  rintro x w1 ⟨⟨u1, u2, bv, ss, ws, bs, rfl, s1, s2, s3, l1, l2, l3, cp, _, _, _⟩, hb1⟩
  clear DP
  have t1 := s1
  have t2 := s2
  have t3 := s3
  obtain ⟨p1, k1, rfl, _⟩ := s1
  obtain ⟨p2, k2, rfl, _⟩ := s2
  obtain ⟨p3, k3, rfl, _⟩ := s3
  have hC1 := hC.later hb1
  have hG1 := cell_later hb1 hG
  have PI := fun W (hb : Below w1.heap.size w1 W) => implCommit_val (.slice p1 ss.length k1) (.slice p2 ws.length k2) (.slice p3 bs.length k3) ss ws bs a0 a1 a2 a3 tg pg W cp (t1.later hb) (t2.later hb) (by omega) (by omega) (t3.later hb) (by omega) (hC1.later hb) (cell_later hb hG1)
  have PS := fun W (hb : Below w1.heap.size w1 W) => specCommit_any (.slice p1 ss.length k1) (.slice p2 ws.length k2) (.slice p3 bs.length k3) ss ws bs W (t1.later hb) (t2.later hb) (by omega) (by omega) (t3.later hb) (by omega)
  have SI := fun W (hb : Below w1.heap.size w1 W) => implScript_val (.slice p1 ss.length k1) (.slice p2 ws.length k2) (.slice p3 bs.length k3) ss ws bs a0 a1 a2 a3 tg pg W cp (t1.later hb) (t2.later hb) (by omega) (by omega) (t3.later hb) (by omega) (hC1.later hb) (cell_later hb hG1)
  have SS := fun W (hb : Below w1.heap.size w1 W) => specScript_any (.slice p1 ss.length k1) (.slice p2 ws.length k2) (.slice p3 bs.length k3) ss ws bs W (t1.later hb) (t2.later hb) (by omega) (by omega) (t3.later hb) (by omega)
  have NI := fun W (hb : Below w1.heap.size w1 W) => implNewest_cap (.slice p1 ss.length k1) (.slice p2 ws.length k2) ss ws a0 a1 a2 a3 W (t1.later hb) (t2.later hb) (by omega) (by omega) (hcp_of (t1.later hb) cp) (hC1.later hb)
  have NI : Hid (∀ W (hb : Below w1.heap.size w1 W), _) := NI
  have B3 : Hid (∀ W (hb : Below w1.heap.size w1 W), Disk.SR W (.slice p3 bs.length k3) bs ∧ Ctx a0 a1 a2 a3 W ∧ W.cell? ⟨0, 0, none⟩ = some (.iface tg pg)) := fun W hb => ⟨t3.later hb, hC1.later hb, cell_later hb hG1⟩
  have LC : Hid ((commitS ss ws bs).length ≤ 64 ∧ (scriptR ss ws bs).length ≤ 100 ∧ bs.length ≤ 31) := ⟨by
    cases h : scrOk ss ws bs
    · rw [commitS_no h]; exact Nat.zero_le _
    · rw [commitS_yes h, doneS_length]; exact l1, by
    cases h : scrOk ss ws bs
    · rw [scriptR_no h]; exact Nat.zero_le _
    · rw [scriptR_yes h]; have := (scrW_length ss bs).2; omega, l3⟩
  generalize hok : scrOk ss ws bs = ok at PI PS
  generalize hR : commitS ss ws bs = R at PI PS LC
  generalize hQ : scriptR ss ws bs = Q at SI SS LC
  have hok : Hid (scrOk ss ws bs = ok) := hok
  have hR : Hid (commitS ss ws bs = R) := hR
  have hQ : Hid (scriptR ss ws bs = Q) := hQ
  clear t1 t2 t3 hC1 hG1 cp l1 l2 l3 hbig
  go_wp2_with fail
  have hA := Disk.bel_one w1 (.cells #[.slice p1 ss.length k1, .slice p2 ws.length k2] 27)
  refine (PI _ hA).mono ?_
  rintro x w2 ⟨x1, x2, rfl, nX, hb2, cX⟩
  obtain ⟨b1, m1, j1, rfl⟩ := nX.s1
  obtain ⟨b2, m2, j2, rfl⟩ := nX.s2
  have hB := Disk.bel_one w2 (.cells #[.slice b1 m1 j1, .slice b2 m2 j2] 27)
  have xA := ((Bx.new w1 (.slice p1 ss.length k1) (.slice p2 ws.length k2)).later hb2).later hB
  have y0 := xA.c0
  have y1 := xA.c1
  have bl3 := bel_after (bel_after hA hb2) hB
  clear PI
  go_wp2_with fail
  refine (PS _ bl3).mono ?_
  rintro x w3 ⟨q1, q2, rfl, nQ, hb3⟩
  clear PS y0 y1
  obtain ⟨c1, i1, e1, rfl⟩ := nQ.s1
  obtain ⟨c2, i2, e2, rfl⟩ := nQ.s2
  have hD := Disk.bel_one w3 (.cells #[.slice c1 i1 e1, .slice c2 i2 e2] 27)
  have xB := ((Bx.new w2 (.slice b1 m1 j1) (.slice b2 m2 j2)).later hb3).later hD
  have xA := (xA.later hb3).later hD
  have z0 := xB.c0
  have z1 := xB.c1
  have bl4 := bel_after bl3 (bel_after hb3 hD)
  have r1 := ((nX.2.2.1.later hB).later hb3).later hD
  have r2 := ((nX.2.2.2.1.later hB).later hb3).later hD
  have LK := likeDisk_same _ _ _ _ R [] _ r1 (nQ.2.2.1.later hD) r2 (nQ.2.2.2.1.later hD) (by have := LC.out.1; omega) (by simp)
  clear nX nQ hA hb2 hB bl3 hb3 hD
  go_wp2_with fail
  refine LK.mono ?_
  rintro x w5 ⟨rfl, hb5⟩
  clear LK z0 z1
  have xA := xA.later hb5
  have xB := xB.later hb5
  have r1 := r1.later hb5
  have r2 := r2.later hb5
  have bl5 := bel_after bl4 hb5
  have y0 := xA.c0
  have y1 := xA.c1
  clear bl4 hb5
  go_wp2_with fail
  refine (SI _ bl5).mono ?_
  rintro x w6 ⟨⟨sv, rfl, nS⟩, hb6⟩
  clear SI y0 y1
  have nS := nS.2.1
  have nS' := nS
  obtain ⟨sa, sk, rfl, _⟩ := nS'
  have xA := xA.later hb6
  have xB := xB.later hb6
  have r1 := r1.later hb6
  have r2 := r2.later hb6
  have bl6 := bel_after bl5 hb6
  have y0 := xA.c0
  have y1 := xA.c1
  clear bl5 hb6
  go_wp2_with fail
  refine (SS _ bl6).mono ?_
  rintro x w7 ⟨⟨tv, rfl, nT⟩, hb7⟩
  clear SS y0 y1
  have nT := nT.2.1
  have nT' := nT
  obtain ⟨ta, tk, rfl, _⟩ := nT'
  have xA := xA.later hb7
  have xB := xB.later hb7
  have r1 := r1.later hb7
  have r2 := r2.later hb7
  have bl7 := bel_after bl6 hb7
  have LW := likeWrites_same _ _ Q w7 (nS.later hb7) nT (by have := LC.out.2.1; omega)
  clear bl6 hb7 nS nT
  go_wp2_with fail
  refine LW.mono ?_
  rintro x w8 ⟨rfl, hb8⟩
  clear LW
  have xA := xA.later hb8
  have xB := xB.later hb8
  have r1 := r1.later hb8
  have r2 := r2.later hb8
  have bl8 := bel_after bl7 hb8
  have z0 := xB.c0
  have z1 := xB.c1
  have y0 := xA.c0
  have y1 := xA.c1
  clear bl7 hb8
  cases ok
  · have eQ : Q = [] := by rw [← hQ.out, scriptR_no hok.out]
    have eR : R = [] := by rw [← hR.out, commitS_no hok.out]
    clear hQ hR hok NI B3 LC y0 y1 xA
    subst eQ
    subst eR
    have LZ := likeDisk_same _ _ (.slice none 0 0) (.slice none 0 0) _ _ _ r1 ⟨none, 0, rfl, fun i hi => absurd hi (by simp)⟩ r2 ⟨none, 0, rfl, fun i hi => absurd hi (by simp)⟩ (by simp) (by simp)
    clear xB r1 r2
    go_wp2_with fail
    refine LZ.mono ?_
    rintro x w9 ⟨rfl, hb9⟩
    go_wp2
    go_ret
    exact ⟨rfl, bel_after hb1 (bel_after bl8 hb9)⟩
  · have F1 := newest_less hok.out
    have F2 := newest_commit hok.out
    have F3 := pages_commit hok.out
    have F4 := (scrW_length ss bs).1
    have F5 := (scrW_length ss bs).2
    have F6 := script_again hok.out
    rw [← scriptR_yes hok.out, hQ.out] at F4 F5
    rw [← commitS_yes hok.out, hR.out] at F2 F3 F6
    have F2 : Hid ((newestR R []).1 = lastE ss + 1) := (by rw [F2] : (newestR R []).1 = lastE ss + 1)
    have F3 : Hid (pagesR R [] = bs) := F3
    have F6 : Hid ((scrW R bs).length = 1) := F6
    have F1 : Hid ((newestR ss ws).1 < lastE ss + 1) := F1
    have G4 : decide ((1 : Int) ≤ (Q.length : Int)) = true := by simp; omega
    have G5 : decide ((Q.length : Int) ≤ (bs.length : Int) + 1) = true := by simp; omega
    have H5 : Hid (Q.length ≤ 100) := LC.out.2.1
    have b31 : bs.length ≤ 31 := LC.out.2.2
    clear hQ hR hok F4 F5
    go_wp2_with fail
    refine (NI.out _ bl8).mono ?_
    rintro x w9 ⟨⟨nv, rfl, nO⟩, hb9⟩
    clear NI nO y0 y1 z0 z1 xA
    have xB := xB.later hb9
    have r1 := r1.later hb9
    have r2 := r2.later hb9
    have bl9 := bel_after bl8 hb9
    have z0 := xB.c0
    have z1 := xB.c1
    have PG := implPages_cap _ _ R [] a0 a1 a2 a3 w9 r1 r2 (by have := LC.out.1; omega) (by simp) (hcp_of r1 cX) (B3.out _ bl9).2.1
    rw [F2.out, F3.out] at PG
    generalize hE : lastE ss + 1 = E1 at *
    generalize (newestR ss ws).1 = E0 at *
    have GT : decide (E0 < E1) = true := by have := F1.out; simp; exact this
    clear bl8 hb9 hE F1 F2 F3
    go_wp2_with fail
    refine PG.mono ?_
    rintro x w10 ⟨⟨pv, rfl, oP⟩, hb10⟩
    clear PG z0 z1
    have sP := sr_text oP
    have sP' := sP
    obtain ⟨pa, pk, rfl, _⟩ := sP'
    have xB := xB.later hb10
    have r1 := r1.later hb10
    have r2 := r2.later hb10
    have bl10 := bel_after bl9 hb10
    have z0 := xB.c0
    have z1 := xB.c1
    have CI := implCommit_val _ _ (.slice p3 bs.length k3) R [] bs a0 a1 a2 a3 tg pg w10 cX r1 r2 (by have := LC.out.1; omega) (by simp) (B3.out _ bl10).1 (by have := LC.out.2.2; omega) (B3.out _ bl10).2.1 (B3.out _ bl10).2.2
    clear bl9 hb10 oP
    cases hok2 : scrOk R [] bs
    · rw [hok2, commitS_no hok2] at CI
      clear hok2
      go_wp2_with fail
      refine CI.mono ?_
      rintro x w11 ⟨y1', y2', rfl, nY, hb11, cY⟩
      clear CI z0 z1
      obtain ⟨d1, n1, g1, rfl⟩ := nY.s1
      obtain ⟨d2, n2, g2, rfl⟩ := nY.s2
      have hE := Disk.bel_one w11 (.cells #[.slice d1 n1 g1, .slice d2 n2 g2] 27)
      have bl12 := bel_after (bel_after bl10 hb11) hE
      have PG2 := implPages_cap (.slice d1 n1 g1) (.slice d2 n2 g2) [] [] a0 a1 a2 a3 _ (nY.2.2.1.later hE) (nY.2.2.2.1.later hE) (by simp) (by simp) (hcp_of (nY.2.2.1.later hE) cY) (B3.out _ bl12).2.1
      have sP := (sP.later hb11).later hE
      clear nY
      go_wp2_with fail
      refine PG2.mono ?_
      rintro x w13 ⟨⟨qv, rfl, oQ⟩, hb13⟩
      clear PG2 oQ
      have bl13 := bel_after bl12 hb13
      have LT := likeTexts_same _ _ bs w13 (sP.later hb13) (B3.out _ bl13).1 (by have := LC.out.2.2; omega)
      go_wp2_with fail
      refine LT.mono ?_
      rintro x w14 ⟨rfl, hb14⟩
      go_wp2
      go_ret
      exact ⟨rfl, bel_after hb1 (bel_after bl13 hb14)⟩
    · have PC2 := pages_commit hok2
      have SY := scriptR_yes hok2
      rw [← commitS_yes hok2] at PC2
      have SL : Hid ((scriptR R [] bs).length = 1) := (by rw [SY]; exact F6.out : (scriptR R [] bs).length = 1)
      have LC2 : Hid ((commitS R [] bs).length ≤ 64) := (by rw [commitS_yes hok2, doneS_length]; exact LC.out.1 : (commitS R [] bs).length ≤ 64)
      rw [hok2] at CI
      generalize commitS R [] bs = R2 at *
      have PC2 : Hid (pagesR R2 [] = bs) := PC2
      clear hok2 SY F6
      go_wp2_with fail
      refine CI.mono ?_
      rintro x w11 ⟨y1', y2', rfl, nY, hb11, cY⟩
      clear CI z0 z1
      obtain ⟨d1, n1, g1, rfl⟩ := nY.s1
      obtain ⟨d2, n2, g2, rfl⟩ := nY.s2
      have hE := Disk.bel_one w11 (.cells #[.slice d1 n1 g1, .slice d2 n2 g2] 27)
      have bl12 := bel_after (bel_after bl10 hb11) hE
      have PG2 := implPages_cap (.slice d1 n1 g1) (.slice d2 n2 g2) R2 [] a0 a1 a2 a3 _ (nY.2.2.1.later hE) (nY.2.2.2.1.later hE) (by have := LC2.out; omega) (by simp) (hcp_of (nY.2.2.1.later hE) cY) (B3.out _ bl12).2.1
      rw [PC2.out] at PG2
      have sP := (sP.later hb11).later hE
      have xB := (xB.later hb11).later hE
      have r1 := (r1.later hb11).later hE
      have r2 := (r2.later hb11).later hE
      clear nY
      generalize (newestR R2 []).1 = E2 at *
      go_wp2_with fail
      refine PG2.mono ?_
      rintro x w13 ⟨⟨qv, rfl, oQ⟩, hb13⟩
      clear PG2
      have sQ := sr_text oQ
      have sQ' := sQ
      obtain ⟨qa, qk, rfl, _⟩ := sQ'
      clear oQ
      have bl13 := bel_after bl12 hb13
      have xB := xB.later hb13
      have r1 := r1.later hb13
      have r2 := r2.later hb13
      have LT := likeTexts_same _ _ bs w13 (sP.later hb13) (B3.out _ bl13).1 (by have := LC.out.2.2; omega)
      go_wp2_with fail
      refine LT.mono ?_
      rintro x w14 ⟨rfl, hb14⟩
      clear LT
      have bl14 := bel_after bl13 hb14
      have xB := xB.later hb14
      have r1 := r1.later hb14
      have r2 := r2.later hb14
      have LT2 := likeTexts_same _ _ bs w14 (sQ.later hb14) (B3.out _ bl14).1 (by have := LC.out.2.2; omega)
      go_wp2_with fail
      refine LT2.mono ?_
      rintro x w15 ⟨rfl, hb15⟩
      clear LT2
      have bl15 := bel_after bl14 hb15
      have xB := xB.later hb15
      have r1 := r1.later hb15
      have r2 := r2.later hb15
      have z0 := xB.c0
      have z1 := xB.c1
      have SX := implScript_val _ _ (.slice p3 bs.length k3) R [] bs a0 a1 a2 a3 tg pg w15 cX r1 r2 (by have := LC.out.1; omega) (by simp) (B3.out _ bl15).1 (by have := LC.out.2.2; omega) (B3.out _ bl15).2.1 (B3.out _ bl15).2.2
      go_wp2_with fail
      refine SX.mono ?_
      rintro x w16 ⟨⟨rv, rfl, nR⟩, hb16⟩
      clear SX
      have nR := nR.2.1
      obtain ⟨ra, rk, rfl, _⟩ := nR
      rw [SL.out]
      go_wp2
      go_ret
      exact ⟨rfl, bel_after hb1 (bel_after bl15 hb16)⟩

end Go.Proofs.YtjclpbaiiklhcaaGreatDoor
