/- Codes as lines, in plain words: what a Code is shown as, and which Code a line is. -/
import Derived.Test.YtimkdjolipnahaaDoorZQOk
import Derived.Test.YtimkdjolipnahaaDoorZNumer
namespace Go.Proofs.YtimkdjolipnahaaDoor
open Go.RowKit

/-- The words of the Codes. -/
def wdL : List ByteArray := [⟨#[112, 117, 115, 104]⟩, ⟨#[108, 111, 97, 100]⟩, ⟨#[115, 97, 118, 101]⟩, ⟨#[110, 101, 119]⟩, ⟨#[103, 101, 116]⟩, ⟨#[115, 101, 116]⟩, ⟨#[97, 100, 100]⟩, ⟨#[115, 117, 98]⟩, ⟨#[108, 101, 115, 115]⟩, ⟨#[106, 117, 109, 112]⟩, ⟨#[122, 101, 114, 111]⟩, ⟨#[100, 117, 112]⟩, ⟨#[100, 114, 111, 112]⟩, ⟨#[112, 114, 105, 110, 116]⟩, ⟨#[104, 97, 115, 104]⟩, ⟨#[104, 97, 108, 116]⟩, ⟨#[115, 119, 97, 112]⟩, ⟨#[98, 101, 99, 111, 109, 101]⟩, ⟨#[99, 97, 108, 108]⟩, ⟨#[98, 97, 99, 107]⟩]
def wdB (op : Int) : ByteArray := wdL.getD (op - 1).toNat ⟨#[]⟩
def showB (op n : Int) : ByteArray := if cokB op n = true then (if hasN op = true then wdB op ++ ⟨#[32]⟩ ++ itoaB n else wdB op) else ⟨#[]⟩

theorem wd_inj0 : ∀ a : Fin 20, ∀ b : Fin 20, wdL.getD a.1 ⟨#[]⟩ = wdL.getD b.1 ⟨#[]⟩ → a = b := by decide +kernel
theorem wd_plain0 : ∀ a : Fin 20, (wdL.getD a.1 ⟨#[]⟩).data.toList.all (fun x => !(x == 32)) = true ∧ (wdL.getD a.1 ⟨#[]⟩).data.toList ≠ [] ∧ (wdL.getD a.1 ⟨#[]⟩).size ≤ 6 := by decide +kernel
theorem wd_inj {a b : Int} (ha : 1 ≤ a ∧ a ≤ 20) (hb : 1 ≤ b ∧ b ≤ 20) (h : wdB a = wdB b) : a = b := by
  have := wd_inj0 ⟨(a - 1).toNat, by omega⟩ ⟨(b - 1).toNat, by omega⟩ h
  simp only [Fin.mk.injEq] at this
  omega
theorem wd_plain {a : Int} (ha : 1 ≤ a ∧ a ≤ 20) : (wdB a).data.toList.all (fun x => !(x == 32)) = true ∧ (wdB a).data.toList ≠ [] ∧ (wdB a).size ≤ 6 := wd_plain0 ⟨(a - 1).toNat, by omega⟩

/-- The text ahead of the first byte m, and what is behind it. -/
def cutL (m : UInt8) (l : List UInt8) : List UInt8 × List UInt8 × Bool := match l.findIdx? (· == m) with | none => (l, [], false) | some i => (l.take i, l.drop (i + 1), true)
theorem find_none {m : UInt8} {l : List UInt8} (h : l.all (fun x => !(x == m)) = true) : l.findIdx? (· == m) = none := by
  rw [List.findIdx?_eq_none_iff]
  intro x hx
  have := List.all_eq_true.1 h x hx
  simpa using this
theorem find_at {m : UInt8} {l r : List UInt8} (h : l.all (fun x => !(x == m)) = true) : (l ++ m :: r).findIdx? (· == m) = some l.length := by
  rw [List.findIdx?_append, find_none h]
  simp [List.findIdx?_cons]
theorem cut_none {m : UInt8} {l : List UInt8} (h : l.all (fun x => !(x == m)) = true) : cutL m l = (l, [], false) := by
  unfold cutL
  rw [find_none h]
theorem cut_at {m : UInt8} {l r : List UInt8} (h : l.all (fun x => !(x == m)) = true) : cutL m (l ++ m :: r) = (l, r, true) := by
  unfold cutL
  rw [find_at h]
  simp
theorem dig_ne {x : UInt8} (h : isDig x = true) : (!(x == 32)) = true := by
  unfold isDig at h
  have h' := of_decide_eq_true h
  simp
  intro e
  rw [e] at h'
  change 48 ≤ 32 ∧ _ at h'
  omega
theorem itoa_plain (n : Int) : (itoaB n).data.toList.all (fun x => !(x == 32)) = true := by
  have key : ∀ m : Nat, (Lib.decDigits m).all (fun x => !(x == 32)) = true := fun m => by
    rw [List.all_eq_true]
    intro x hx
    exact dig_ne (List.all_eq_true.1 (dec_facts m m (Nat.le_refl _)).1 x hx)
  have E : (itoaB n).data.toList = Lib.itoa n := by unfold itoaB; simp
  rw [E]
  unfold Lib.itoa
  split
  · rw [List.all_cons, key]
    rfl
  · exact key _
/-- A number in the range of a Code has at most ten digits. -/
theorem itoa_ten {n : Int} (h : -1000000000 ≤ n ∧ n ≤ 1000000000) : numIs (itoaB n) 10 = true ∧ numV (itoaB n) 10 = n := by
  obtain ⟨i1, i2⟩ := num_itoa n 10
  have hl : (bodyN (itoaB n)).length ≤ 10 := by
    have E : (itoaB n).data.toList = Lib.itoa n := by unfold itoaB; simp
    unfold bodyN
    rw [E, List.length_drop]
    have key := dec_len 9 n.natAbs (by omega)
    by_cases hn : n < 0
    · have EL : Lib.itoa n = 45 :: Lib.decDigits n.natAbs := by unfold Lib.itoa; rw [if_pos hn]
      have ho : offN (itoaB n) = 1 := by unfold offN negB; rw [E, EL]; rfl
      rw [ho, EL, List.length_cons]
      omega
    · have EL : Lib.itoa n = Lib.decDigits n.toNat := by unfold Lib.itoa; rw [if_neg hn]
      have e2 : n.toNat = n.natAbs := by omega
      rw [EL, e2]
      omega
  have hi : numIs (itoaB n) 10 = true := by rw [i1]; exact decide_eq_true hl
  exact ⟨hi, i2 hi⟩

theorem show_has {op n : Int} (h : cokB op n = true) (hn : hasN op = true) : showB op n = wdB op ++ ⟨#[32]⟩ ++ itoaB n := by unfold showB; rw [if_pos h, if_pos hn]
theorem show_bare {op n : Int} (h : cokB op n = true) (hn : hasN op = false) : showB op n = wdB op := by unfold showB; rw [if_pos h, if_neg (by rw [hn]; simp)]
theorem show_no {op n : Int} (h : cokB op n = false) : showB op n = ⟨#[]⟩ := by unfold showB; rw [if_neg (by rw [h]; simp)]
theorem show_list {op n : Int} (h : cokB op n = true) (hn : hasN op = true) : (showB op n).data.toList = (wdB op).data.toList ++ 32 :: (itoaB n).data.toList := by
  rw [show_has h hn]
  simp
/-- Where a Code's text is cut. -/
theorem show_cut {op n : Int} (h : cokB op n = true) : cutL 32 (showB op n).data.toList = if hasN op = true then ((wdB op).data.toList, (itoaB n).data.toList, true) else ((wdB op).data.toList, [], false) := by
  have hp := (wd_plain (cok_op h)).1
  cases hn : hasN op
  · rw [show_bare h hn, if_neg (by simp)]
    exact cut_none hp
  · rw [show_list h hn, if_pos rfl]
    exact cut_at hp
theorem ba_ext {a b : ByteArray} (h : a.data.toList = b.data.toList) : a = b := ByteArray.ext (Array.toList_inj.1 h)
theorem show_inj {a b c d : Int} (h : cokB a b = true) (k : cokB c d = true) (e : showB a b = showB c d) : a = c ∧ b = d := by
  have h1 := show_cut h
  have h2 := show_cut k
  rw [e, h2] at h1
  have ha := cok_op h
  have hc := cok_op k
  cases h3 : hasN a <;> cases h4 : hasN c <;> rw [h3, h4] at h1 <;> simp at h1
  · have e1 := wd_inj hc ha (ba_ext (by simpa using h1))
    exact ⟨e1.symm, by rw [cok_zero h h3, cok_zero k h4]⟩
  · have e1 := wd_inj hc ha (ba_ext (by simpa using h1.1))
    refine ⟨e1.symm, ?_⟩
    have e2 : itoaB d = itoaB b := ba_ext (by simpa using h1.2)
    have q1 := (itoa_ten (cok_n h)).2
    have q2 := (itoa_ten (cok_n k)).2
    rw [e2] at q2
    omega
theorem show_ne {op n : Int} (h : cokB op n = true) : showB op n ≠ ⟨#[]⟩ := by
  intro e
  have hp := wd_plain (cok_op h)
  cases hn : hasN op
  · rw [show_bare h hn] at e
    rw [e] at hp
    exact hp.2.1 rfl
  · have h2 := show_list h hn
    rw [e] at h2
    simp at h2
theorem show_size (op n : Int) : (showB op n).size ≤ 30 := by
  cases h : cokB op n
  · rw [show_no h]
    show 0 ≤ 30
    omega
  · have hp := (wd_plain (cok_op h)).2.2
    obtain ⟨n0, n1⟩ := cok_n h
    have hi := itoaB_size (n := n) (by omega) (by omega)
    cases hn : hasN op
    · rw [show_bare h hn]
      omega
    · rw [show_has h hn, ByteArray.size_append, ByteArray.size_append]
      have e32 : (⟨#[32]⟩ : ByteArray).size = 1 := rfl
      omega

/-- The Code that a text is; nought and false where it is none. -/
def RD (s : ByteArray) (op n : Int) (is : Bool) : Prop := (is = true ∧ cokB op n = true ∧ showB op n = s) ∨ (is = false ∧ op = 0 ∧ n = 0 ∧ ∀ a b, cokB a b = true → showB a b ≠ s)
theorem RD.one {s : ByteArray} {a b : Int} {c : Bool} {x y : Int} {z : Bool} (h : RD s a b c) (k : RD s x y z) : a = x ∧ b = y ∧ c = z := by
  rcases h with ⟨rfl, h1, h2⟩ | ⟨rfl, rfl, rfl, h3⟩
  · rcases k with ⟨rfl, k1, k2⟩ | ⟨rfl, rfl, rfl, k3⟩
    · obtain ⟨e1, e2⟩ := show_inj h1 k1 (h2.trans k2.symm)
      exact ⟨e1, e2, rfl⟩
    · exact absurd h2 (k3 _ _ h1)
  · rcases k with ⟨rfl, k1, k2⟩ | ⟨rfl, rfl, rfl, k3⟩
    · exact absurd k2 (h3 _ _ k1)
    · exact ⟨rfl, rfl, rfl⟩
theorem RD.ex (s : ByteArray) : ∃ r : Int × Int × Bool, RD s r.1 r.2.1 r.2.2 := by
  by_cases h : ∃ a b, cokB a b = true ∧ showB a b = s
  · obtain ⟨a, b, h1, h2⟩ := h
    exact ⟨(a, b, true), .inl ⟨rfl, h1, h2⟩⟩
  · exact ⟨(0, 0, false), .inr ⟨rfl, rfl, rfl, fun a b h1 h2 => h ⟨a, b, h1, h2⟩⟩⟩
noncomputable def rdC (s : ByteArray) : Int × Int × Bool := Classical.choose (RD.ex s)
theorem rdC_spec (s : ByteArray) : RD s (rdC s).1 (rdC s).2.1 (rdC s).2.2 := Classical.choose_spec (RD.ex s)
theorem rd_eq {s : ByteArray} {a b : Int} {c : Bool} (h : RD s a b c) : (rdC s).1 = a ∧ (rdC s).2.1 = b ∧ (rdC s).2.2 = c := (rdC_spec s).one h

/-- What makes the answer: the word ahead of the first blank, and the number behind it. -/
theorem rd_no_word {s : ByteArray} (h : ∀ op, 1 ≤ op → op ≤ 20 → (wdB op).data.toList ≠ (cutL 32 s.data.toList).1) : RD s 0 0 false := by
  refine .inr ⟨rfl, rfl, rfl, fun a b h1 h2 => ?_⟩
  obtain ⟨o1, o2⟩ := cok_op h1
  have hc := show_cut h1
  rw [h2] at hc
  refine h a o1 o2 ?_
  rw [hc]
  split <;> rfl
theorem rd_shown {s : ByteArray} {op n : Int} (hs : s ≠ ⟨#[]⟩) (h : showB op n = s) : RD s op n true := by
  cases hk : cokB op n
  · rw [show_no hk] at h
    exact absurd h.symm hs
  · exact .inl ⟨rfl, hk, h⟩
/-- The word is there, and what it would be shown as is not the text: there is no Code. -/
theorem rd_other {s : ByteArray} {op n : Int} (ho : 1 ≤ op ∧ op ≤ 20) (hw : (wdB op).data.toList = (cutL 32 s.data.toList).1) (hn : ∀ m, (cutL 32 s.data.toList).2.2 = true → itoaB m = ⟨(cutL 32 s.data.toList).2.1.toArray⟩ → -1000000000 ≤ m ∧ m ≤ 1000000000 → n = m) (hz : (cutL 32 s.data.toList).2.2 = false → n = 0) (h : showB op n ≠ s) : RD s 0 0 false := by
  refine .inr ⟨rfl, rfl, rfl, fun a b h1 h2 => ?_⟩
  have hc := show_cut h1
  rw [h2] at hc
  have e1 : a = op := by
    refine wd_inj (cok_op h1) ho (ba_ext ?_)
    rw [hw, hc]
    split <;> rfl
  subst e1
  cases hh : hasN a
  · rw [hh, if_neg (by simp)] at hc
    have := hz (by rw [hc])
    rw [this, ← cok_zero h1 hh] at h
    exact h h2
  · rw [hh, if_pos rfl] at hc
    have := hn b (by rw [hc]) (by rw [hc]) (cok_n h1)
    rw [this] at h
    exact h h2
theorem rd_nonum {s : ByteArray} (hc2 : (cutL 32 s.data.toList).2.2 = true) (hn : numIs ⟨(cutL 32 s.data.toList).2.1.toArray⟩ 10 = false) : RD s 0 0 false := by
  refine .inr ⟨rfl, rfl, rfl, fun a b h1 h2 => ?_⟩
  have hc := show_cut h1
  rw [h2] at hc
  cases hh : hasN a
  · rw [hh, if_neg (by simp)] at hc
    rw [hc] at hc2
    cases hc2
  · rw [hh, if_pos rfl] at hc
    rw [hc] at hn
    have := (itoa_ten (cok_n h1)).1
    rw [show (⟨(itoaB b).data.toList.toArray⟩ : ByteArray) = itoaB b from by simp] at hn
    rw [hn] at this
    cases this

/-- The program that a text is. -/
noncomputable def pgF : Nat → List UInt8 → List (Int × Int) → List (Int × Int) × Int
  | 0, _, acc => (acc, -1)
  | f + 1, l, acc => if l = [] then (acc, -1) else match l.findIdx? (· == 10) with
    | none => ([], acc.length)
    | some i => if (rdC ⟨(l.take i).toArray⟩).2.2 = true ∧ acc.length ≠ 100 then pgF f (l.drop (i + 1)) (acc ++ [((rdC ⟨(l.take i).toArray⟩).1, (rdC ⟨(l.take i).toArray⟩).2.1)]) else ([], acc.length)
theorem pg_empty (f : Nat) (acc : List (Int × Int)) : pgF f [] acc = (acc, -1) := by
  cases f with
  | zero => rfl
  | succ f => unfold pgF; rw [if_pos rfl]
theorem pg_none {f : Nat} {l : List UInt8} {acc : List (Int × Int)} (hl : l ≠ []) (h : l.findIdx? (· == 10) = none) : pgF (f + 1) l acc = ([], (acc.length : Int)) := by
  unfold pgF
  rw [if_neg hl, h]
theorem pg_bad {f : Nat} {l : List UInt8} {acc : List (Int × Int)} {i : Nat} (hl : l ≠ []) (h : l.findIdx? (· == 10) = some i) (hb : ¬ ((rdC ⟨(l.take i).toArray⟩).2.2 = true ∧ acc.length ≠ 100)) : pgF (f + 1) l acc = ([], (acc.length : Int)) := by
  unfold pgF
  rw [if_neg hl, h]
  exact if_neg hb
theorem pg_step {f : Nat} {l : List UInt8} {acc : List (Int × Int)} {i : Nat} (hl : l ≠ []) (h : l.findIdx? (· == 10) = some i) (hb : (rdC ⟨(l.take i).toArray⟩).2.2 = true ∧ acc.length ≠ 100) : pgF (f + 1) l acc = pgF f (l.drop (i + 1)) (acc ++ [((rdC ⟨(l.take i).toArray⟩).1, (rdC ⟨(l.take i).toArray⟩).2.1)]) := by
  conv => lhs; unfold pgF
  rw [if_neg hl, h]
  exact if_pos hb

end Go.Proofs.YtimkdjolipnahaaDoor
