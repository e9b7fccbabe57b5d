/- Numerals with blanks between are unlike for unlike numbers. -/
import Derived.Test.YtnppoeifhmkphaaGreatDoorRows
import Derived.WalkKit
import Derived.Lib.ItoaNum
import Derived.Lib.Join
namespace Go.Proofs.YtnppoeifhmkphaaGreatDoor
open Go.RowKit

def decVal (l : List UInt8) : Nat := l.foldl (fun a c => a * 10 + (c.toNat - 48)) 0
theorem decVal_snoc (l : List UInt8) (c : UInt8) : decVal (l ++ [c]) = decVal l * 10 + (c.toNat - 48) := by simp [decVal]
theorem digit_val {d : Nat} (h : d < 10) : (UInt8.ofNat (48 + d)).toNat = 48 + d := by
  rw [UInt8.toNat_ofNat']
  exact Nat.mod_eq_of_lt (by omega)
theorem decVal_digits (u : Nat) : decVal (Lib.decDigits u) = u := by
  induction u using Nat.strongRecOn with
  | _ u ih =>
    rw [Lib.decDigits]
    split
    · rename_i h
      simp only [decVal, List.foldl_cons, List.foldl_nil]
      rw [digit_val h]
      omega
    · rename_i h
      rw [decVal_snoc, ih (u / 10) (by omega), digit_val (by omega)]
      omega
theorem dec_range (u : Nat) : ∀ c, c ∈ Lib.decDigits u → 48 ≤ c.toNat ∧ c.toNat ≤ 57 := by
  induction u using Nat.strongRecOn with
  | _ u ih =>
    intro c hc
    rw [Lib.decDigits] at hc
    split at hc
    · rename_i h
      rw [List.mem_singleton] at hc
      subst hc
      rw [digit_val h]
      omega
    · rename_i h
      rw [List.mem_append, List.mem_singleton] at hc
      rcases hc with hc | rfl
      · exact ih (u / 10) (by omega) c hc
      · rw [digit_val (by omega)]
        omega
theorem dec_inj {u v : Nat} (h : Lib.decDigits u = Lib.decDigits v) : u = v := by
  have := congrArg decVal h
  rwa [decVal_digits, decVal_digits] at this
theorem itoa_inj {m n : Int} (h : Lib.itoa m = Lib.itoa n) : m = n := by
  unfold Lib.itoa at h
  split at h <;> split at h
  · simp only [List.cons.injEq, true_and] at h
    have := dec_inj h
    omega
  · exfalso
    have := dec_range n.toNat 45 (by rw [← h]; simp)
    exact absurd this.1 (by decide)
  · exfalso
    have := dec_range m.toNat 45 (by rw [h]; simp)
    exact absurd this.1 (by decide)
  · have := dec_inj h
    omega
theorem itoa_blank (m : Int) : (32 : UInt8) ∉ Lib.itoa m := by
  intro h
  unfold Lib.itoa at h
  split at h
  · rw [List.mem_cons] at h
    rcases h with h | h
    · exact absurd h (by decide)
    · exact absurd (dec_range _ _ h).1 (by decide)
  · exact absurd (dec_range _ _ h).1 (by decide)
theorem cut_blank : ∀ {x y t u : List UInt8}, (32 : UInt8) ∉ x → (32 : UInt8) ∉ y → (t = [] ∨ t.head? = some 32) → (u = [] ∨ u.head? = some 32) → x ++ t = y ++ u → x = y ∧ t = u
  | [], [], _, _, _, _, _, _, h => ⟨rfl, h⟩
  | [], c :: y, t, u, _, hy, ht, _, h => by
    exfalso
    rw [List.nil_append] at h
    subst h
    rcases ht with ht | ht
    · simp at ht
    · simp at ht
      exact hy (by simp [ht])
  | c :: x, [], t, u, hx, _, _, hu, h => by
    exfalso
    rw [List.nil_append] at h
    subst h
    rcases hu with hu | hu
    · simp at hu
    · simp at hu
      exact hx (by simp [hu])
  | c :: x, d :: y, t, u, hx, hy, ht, hu, h => by
    simp only [List.cons_append, List.cons.injEq] at h
    obtain ⟨rfl, h⟩ := h
    obtain ⟨e1, e2⟩ := cut_blank (fun q => hx (List.mem_cons_of_mem _ q)) (fun q => hy (List.mem_cons_of_mem _ q)) ht hu h
    exact ⟨by rw [e1], e2⟩
theorem tail_head (r : List (List UInt8)) : Lib.joinTail [32] r = [] ∨ (Lib.joinTail [32] r).head? = some 32 := by
  cases r with
  | nil => exact .inl rfl
  | cons y r => exact .inr (by simp [Lib.joinTail])
theorem tail_inj : ∀ {r s : List Int}, Lib.joinTail [32] (r.map Lib.itoa) = Lib.joinTail [32] (s.map Lib.itoa) → r = s
  | [], [], _ => rfl
  | [], y :: s, h => by simp [Lib.joinTail] at h
  | x :: r, [], h => by simp [Lib.joinTail] at h
  | x :: r, y :: s, h => by
    have e : ∀ (z : Int) (q : List Int), Lib.joinTail [32] ((z :: q).map Lib.itoa) = 32 :: (Lib.itoa z ++ Lib.joinTail [32] (q.map Lib.itoa)) := fun z q => by simp [Lib.joinTail]
    rw [e, e, List.cons.injEq] at h
    obtain ⟨h1, h2⟩ := cut_blank (itoa_blank x) (itoa_blank y) (tail_head _) (tail_head _) h.2
    rw [itoa_inj h1, tail_inj h2]
/-- Texts of numbers with blanks between are unlike for unlike numbers. -/
theorem join_inj {x y : Int} {r s : List Int} (h : Lib.join ((x :: r).map Lib.itoa) [32] = Lib.join ((y :: s).map Lib.itoa) [32]) : x :: r = y :: s := by
  rw [List.map_cons, List.map_cons, Lib.join_cons, Lib.join_cons] at h
  obtain ⟨h1, h2⟩ := cut_blank (itoa_blank x) (itoa_blank y) (tail_head _) (tail_head _) h
  rw [itoa_inj h1, tail_inj h2]
theorem tail_len (r : List Int) (hr : ∀ z, z ∈ r → (Lib.itoa z).length ≤ 21) : (Lib.joinTail [32] (r.map Lib.itoa)).length ≤ 22 * r.length := by
  induction r with
  | nil => simp [Lib.joinTail]
  | cons z r ih =>
    have := ih (fun q hq => hr q (by simp [hq]))
    have h2 := hr z (by simp)
    have e : Lib.joinTail [32] ((z :: r).map Lib.itoa) = 32 :: (Lib.itoa z ++ Lib.joinTail [32] (r.map Lib.itoa)) := by simp [Lib.joinTail]
    rw [e, List.length_cons, List.length_append, List.length_cons]
    omega
theorem join_len (r : List Int) (hr : ∀ z, z ∈ r → (Lib.itoa z).length ≤ 21) : (Lib.join (r.map Lib.itoa) [32]).length ≤ 22 * r.length := by
  cases r with
  | nil => simp [Lib.join_nil]
  | cons z r =>
    have h1 := tail_len r (fun q hq => hr q (by simp [hq]))
    have h2 := hr z (by simp)
    rw [List.map_cons, Lib.join_cons, List.length_append, List.length_cons]
    omega

end Go.Proofs.YtnppoeifhmkphaaGreatDoor
