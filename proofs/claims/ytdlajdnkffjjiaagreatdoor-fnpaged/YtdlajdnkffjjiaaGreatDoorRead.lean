/- l2Number of the model: a numeral read. -/
import Derived.Test.YtdlajdnkffjjiaaGreatDoorPack
namespace Go.Proofs.YtdlajdnkffjjiaaGreatDoor
open Go.RowKit

def negB (s : ByteArray) : Bool := s.data.toList.head? == some 45
def offN (s : ByteArray) : Nat := if negB s = true then 1 else 0
def bodyN (s : ByteArray) : List UInt8 := s.data.toList.drop (offN s)
def isDig (b : UInt8) : Bool := decide (48 ≤ b.toNat ∧ b.toNat ≤ 57)
def dsv (l : List UInt8) : Nat := l.foldl (fun n b => n * 10 + (b.toNat - 48)) 0
def numIs (s : ByteArray) (most : Nat) : Bool := decide (1 ≤ (bodyN s).length ∧ (bodyN s).length ≤ most) && (bodyN s).all isDig && !((bodyN s).head? == some 48 && (negB s || decide (1 < s.size)))
def numV (s : ByteArray) (most : Nat) : Int := if numIs s most = true then (if negB s = true then -(dsv (bodyN s) : Int) else dsv (bodyN s)) else 0

theorem dsv_succ (l : List UInt8) (k : Nat) (h : k < l.length) : dsv (l.take (k + 1)) = dsv (l.take k) * 10 + (l[k].toNat - 48) := by
  unfold dsv
  rw [List.take_succ_eq_append_getElem h, List.foldl_append]
  rfl
theorem dsv_lt : ∀ (l : List UInt8), l.all isDig = true → dsv l < 10 ^ l.length := by
  intro l hl
  have key : ∀ (l : List UInt8) (c k : Nat), l.all isDig = true → c < 10 ^ k → l.foldl (fun n b => n * 10 + (b.toNat - 48)) c < 10 ^ (k + l.length) := by
    intro l
    induction l with
    | nil => intro c k _ h; exact h
    | cons x r ih =>
      intro c k ha h
      simp only [List.all_cons, Bool.and_eq_true] at ha
      obtain ⟨hx, hr⟩ := ha
      unfold isDig at hx
      simp at hx
      have h2 : c * 10 + (x.toNat - 48) < 10 ^ (k + 1) := by rw [Nat.pow_succ]; omega
      have h3 := ih (c * 10 + (x.toNat - 48)) (k + 1) hr h2
      rw [List.length_cons, List.foldl_cons]
      rw [show k + (r.length + 1) = k + 1 + r.length from by omega]
      exact h3
  have h := key l 0 0 hl (by simp)
  rw [Nat.zero_add] at h
  exact h
theorem numV_not {s : ByteArray} {most : Nat} (h : numIs s most = false) : numV s most = 0 := by unfold numV; rw [if_neg (by rw [h]; simp)]

theorem body_len (s : ByteArray) : (bodyN s).length = s.size - offN s := by
  unfold bodyN
  rw [List.length_drop, Array.length_toList]
  rfl
theorem body_get (s : ByteArray) (k : Nat) (h : k < s.size) (ho : offN s ≤ k) : ∃ h', (bodyN s)[k - offN s]'h' = s[k] := by
  have hl := body_len s
  refine ⟨by omega, ?_⟩
  unfold bodyN
  rw [List.getElem_drop]
  simp only [show offN s + (k - offN s) = k from by omega]
  rw [Array.getElem_toList]
  rfl

theorem body_head (s : ByteArray) (h : offN s < s.size) : (bodyN s).head? = some s[offN s] := by
  obtain ⟨h', e⟩ := body_get s (offN s) h (Nat.le_refl _)
  rw [← e]
  simp only [Nat.sub_self]
  rw [List.head?_eq_getElem?]
  exact List.getElem?_eq_getElem _
theorem neg_head (s : ByteArray) (h : 0 < s.size) : negB s = decide (s[0].toNat = 45) := by
  unfold negB
  have e : s.data.toList.head? = some s[0] := by
    rw [List.head?_eq_getElem?]
    have h2 : 0 < s.data.toList.length := by rw [Array.length_toList]; exact h
    rw [List.getElem?_eq_getElem h2, Array.getElem_toList]
    rfl
  rw [e]
  by_cases hb : s[0].toNat = 45
  · have : s[0] = 45 := UInt8.toNat_inj.1 hb
    simp [this]
  · have : ¬ s[0] = 45 := fun e => hb (by rw [e]; rfl)
    simp [this, hb]
theorem numIs_len {s : ByteArray} {most : Nat} (h : ¬ (1 ≤ (bodyN s).length ∧ (bodyN s).length ≤ most)) : numIs s most = false := by
  unfold numIs
  rw [decide_eq_false h]
  rfl
theorem numIs_dig {s : ByteArray} {most k : Nat} (hk : k < s.size) (ho : offN s ≤ k) (h : isDig s[k] = false) : numIs s most = false := by
  unfold numIs
  have h2 : (bodyN s).all isDig = false := by
    obtain ⟨h', e⟩ := body_get s k hk ho
    rw [List.all_eq_false]
    exact ⟨_, List.getElem_mem h', by rw [e, h]; simp⟩
  rw [h2]
  simp
theorem numIs_end {s : ByteArray} {most : Nat} (h1 : 1 ≤ (bodyN s).length ∧ (bodyN s).length ≤ most) (h2 : (bodyN s).all isDig = true) (ho : offN s < s.size) : numIs s most = !(decide (s[offN s].toNat = 48) && (negB s || decide (1 < s.size))) := by
  unfold numIs
  rw [decide_eq_true h1, h2, body_head s ho]
  have : (some s[offN s] == some (48 : UInt8)) = decide (s[offN s].toNat = 48) := by
    by_cases hb : s[offN s].toNat = 48
    · have : s[offN s] = 48 := UInt8.toNat_inj.1 hb
      simp [this]
    · have : ¬ s[offN s] = 48 := fun e => hb (by rw [e]; rfl)
      simp [this, hb]
  rw [this]
  simp
theorem numIs_at {s : ByteArray} {most o : Nat} (eo : offN s = o) (ho : o < s.size) (h1 : 1 ≤ (bodyN s).length ∧ (bodyN s).length ≤ most) (h2 : (bodyN s).all isDig = true) : numIs s most = !(decide (s[o].toNat = 48) && (negB s || decide (1 < s.size))) := by
  subst eo
  exact numIs_end h1 h2 ho
theorem numV_is {s : ByteArray} {most : Nat} (h : numIs s most = true) : numV s most = if negB s = true then -(dsv (bodyN s) : Int) else dsv (bodyN s) := by unfold numV; rw [if_pos h]
theorem take_body (s : ByteArray) : (bodyN s).take (s.size - offN s) = bodyN s := List.take_of_length_le (by rw [body_len]; exact Nat.le_refl _)

theorem all_snoc {s : ByteArray} {k : Nat} (hk : k < s.size) (ho : offN s ≤ k) (h : ((bodyN s).take (k - offN s)).all isDig = true) (hd : isDig s[k] = true) : ((bodyN s).take (k + 1 - offN s)).all isDig = true := by
  obtain ⟨h', e⟩ := body_get s k hk ho
  rw [show k + 1 - offN s = k - offN s + 1 from by omega, List.take_succ_eq_append_getElem h', List.all_append, h, e]
  simp [hd]
theorem dsv_snoc {s : ByteArray} {k : Nat} (hk : k < s.size) (ho : offN s ≤ k) : dsv ((bodyN s).take (k + 1 - offN s)) = dsv ((bodyN s).take (k - offN s)) * 10 + (s[k].toNat - 48) := by
  obtain ⟨h', e⟩ := body_get s k hk ho
  rw [show k + 1 - offN s = k - offN s + 1 from by omega, dsv_succ _ _ h', e]
theorem dsv_small {s : ByteArray} {k : Nat} (h : ((bodyN s).take (k - offN s)).all isDig = true) (hk : k - offN s ≤ 17) : dsv ((bodyN s).take (k - offN s)) < 100000000000000000 := by
  have h1 := dsv_lt _ h
  have h2 : ((bodyN s).take (k - offN s)).length ≤ 17 := by rw [List.length_take]; omega
  have h3 := Nat.pow_le_pow_right (n := 10) (by omega) h2
  omega
theorem dsv_full {s : ByteArray} {most : Nat} (hm : most ≤ 18) (h : (bodyN s).all isDig = true) (hk : (bodyN s).length ≤ most) : dsv (bodyN s) < 1000000000000000000 := by
  have h1 := dsv_lt _ h
  have h3 := Nat.pow_le_pow_right (n := 10) (by omega) (Nat.le_trans hk hm)
  omega




end Go.Proofs.YtdlajdnkffjjiaaGreatDoor
