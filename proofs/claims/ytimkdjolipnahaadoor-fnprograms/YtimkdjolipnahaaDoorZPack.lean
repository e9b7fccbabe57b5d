/- PackPage of the model, with what it calls. -/
import Derived.Test.YtimkdjolipnahaaDoorZCrc
import Derived.Test.YtimkdjolipnahaaDoorZNum
namespace Go.Proofs.YtimkdjolipnahaaDoor
open Go.RowKit

theorem dec_len : ∀ (k m : Nat), m < 10 ^ (k + 1) → (Lib.decDigits m).length ≤ k + 1
  | 0, m, h => by rw [Lib.decDigits, dif_pos (by omega)]; simp
  | k + 1, m, h => by
    rw [Lib.decDigits]
    split
    · simp
    · have h2 : m / 10 < 10 ^ (k + 1) := (Nat.div_lt_iff_lt_mul (by omega)).2 (by rw [Nat.pow_succ] at h; exact h)
      have := dec_len k _ h2
      rw [List.length_append]
      simp
      exact this

/-- The numeral of a number. -/
def itoaB (n : Int) : ByteArray := ⟨(Lib.itoa n).toArray⟩
theorem itoaB_size {n : Int} (h0 : -9223372036854775808 ≤ n) (h1 : n ≤ 9223372036854775807) : (itoaB n).size ≤ 20 := by
  show (Lib.itoa n).toArray.size ≤ 20
  rw [List.size_toArray]
  unfold Lib.itoa
  split
  · have := dec_len 18 n.natAbs (by omega)
    simp
    omega
  · have := dec_len 18 n.toNat (by omega)
    omega

theorem l1In_any (x lo hi : Int) (w : World) :
    Calls Tryd.prog 39 #[.int .i64 x, .int .i64 lo, .int .i64 hi] w fun e w' => e = .returned (.bool (decide (lo ≤ x ∧ x ≤ hi))) ∧ w' = w := by
  by_cases h : lo ≤ x
  · by_cases h2 : x ≤ hi
    · have g : (decide (lo ≤ x ∧ x ≤ hi)) = true := by simp [h, h2]
      rw [g]
      clear g
      go_enter Tryd.func39, Tryd.ntmps39
      go_wp2
      go_ret
      exact ⟨rfl, rfl⟩
    · have g : (decide (lo ≤ x ∧ x ≤ hi)) = false := by simp [h2]
      rw [g]
      clear g
      go_enter Tryd.func39, Tryd.ntmps39
      go_wp2
      go_ret
      exact ⟨rfl, rfl⟩
  · have g : (decide (lo ≤ x ∧ x ≤ hi)) = false := by simp [h]
    rw [g]
    clear g
    go_enter Tryd.func39, Tryd.ntmps39
    go_wp2
    go_ret
    exact ⟨rfl, rfl⟩

def pgOk (n e : Int) (b : ByteArray) : Bool := decide (0 ≤ n ∧ n ≤ 29) && decide (0 ≤ e ∧ e ≤ 999999999) && decide (b.size ≤ 200)
theorem pgOk_range {n e : Int} {b : ByteArray} (h : pgOk n e b = true) : 0 ≤ n ∧ n ≤ 29 ∧ 0 ≤ e ∧ e ≤ 999999999 ∧ b.size ≤ 200 := by
  unfold pgOk at h
  simp at h
  omega


theorem bel_after {a b c : World} (h : Below a.heap.size a b) (k : Below b.heap.size b c) : Below a.heap.size a c := h.trans (k.mono h.size)

def semi : ByteArray := ⟨#[59]⟩
def headS (n e : Int) : ByteArray := itoaB n ++ semi ++ itoaB e ++ semi
theorem headS_size {n e : Int} (h0 : -9223372036854775808 ≤ n) (h1 : n ≤ 9223372036854775807) (k0 : -9223372036854775808 ≤ e) (k1 : e ≤ 9223372036854775807) : (headS n e).size ≤ 42 := by
  have a := itoaB_size h0 h1
  have b := itoaB_size k0 k1
  have c : semi.size = 1 := rfl
  unfold headS
  rw [ByteArray.size_append, ByteArray.size_append, ByteArray.size_append]
  omega


def packS (n e : Int) (b : ByteArray) : ByteArray := ⟨#[80]⟩ ++ headS n e ++ itoaB (crcS (headS n e ++ b)) ++ semi ++ b
def packT (n e : Int) (b : ByteArray) : ByteArray := if pgOk n e b = true then packS n e b else ⟨#[]⟩


end Go.Proofs.YtimkdjolipnahaaDoor
