/- PackPage of the model, with what it calls. -/
import Derived.Test.YtfcenohgfhefiaaGreatDoorCrc
import Derived.Test.YtfcenohgfhefiaaGreatDoorNum
namespace Go.Proofs.YtfcenohgfhefiaaGreatDoor
open Go.RowKit

theorem dec_len : ∀ (k m : Nat), m < 10 ^ (k + 1) → (Lib.decDigits m).length ≤ k + 1
  | 0, m, h => by rw [Lib.decDigits, dif_pos (by omega)]; simp
  | k + 1, m, h => by
    rw [Lib.decDigits]
    split
    · simp
    · have h2 : m / 10 < 10 ^ (k + 1) := (Nat.div_lt_iff_lt_mul (by omega)).2 (by rw [Nat.pow_succ] at h; exact h)
      have := dec_len k _ h2
      rw [List.length_append]
      simp
      exact this

/-- The numeral of a number. -/
def itoaB (n : Int) : ByteArray := ⟨(Lib.itoa n).toArray⟩
theorem itoaB_size {n : Int} (h0 : -9223372036854775808 ≤ n) (h1 : n ≤ 9223372036854775807) : (itoaB n).size ≤ 20 := by
  show (Lib.itoa n).toArray.size ≤ 20
  rw [List.size_toArray]
  unfold Lib.itoa
  split
  · have := dec_len 18 n.natAbs (by omega)
    simp
    omega
  · have := dec_len 18 n.toNat (by omega)
    omega

theorem l1In_any (x lo hi : Int) (w : World) :
    Calls Tryz.prog 70 #[.int .i64 x, .int .i64 lo, .int .i64 hi] w fun e w' => e = .returned (.bool (decide (lo ≤ x ∧ x ≤ hi))) ∧ w' = w := by
  by_cases h : lo ≤ x
  · by_cases h2 : x ≤ hi
    · have g : (decide (lo ≤ x ∧ x ≤ hi)) = true := by simp [h, h2]
      rw [g]
      clear g
      go_enter Tryz.func70, Tryz.ntmps70
      go_wp2
      go_ret
      exact ⟨rfl, rfl⟩
    · have g : (decide (lo ≤ x ∧ x ≤ hi)) = false := by simp [h2]
      rw [g]
      clear g
      go_enter Tryz.func70, Tryz.ntmps70
      go_wp2
      go_ret
      exact ⟨rfl, rfl⟩
  · have g : (decide (lo ≤ x ∧ x ≤ hi)) = false := by simp [h]
    rw [g]
    clear g
    go_enter Tryz.func70, Tryz.ntmps70
    go_wp2
    go_ret
    exact ⟨rfl, rfl⟩

def pgOk (n e : Int) (b : ByteArray) : Bool := decide (0 ≤ n ∧ n ≤ 29) && decide (0 ≤ e ∧ e ≤ 999999999) && decide (b.size ≤ 200)
theorem pgOk_range {n e : Int} {b : ByteArray} (h : pgOk n e b = true) : 0 ≤ n ∧ n ≤ 29 ∧ 0 ≤ e ∧ e ≤ 999999999 ∧ b.size ≤ 200 := by
  unfold pgOk at h
  simp at h
  omega

set_option maxHeartbeats 400000 in
theorem l2Range_any (n e : Int) (b : ByteArray) (w : World) :
    Calls Tryz.prog 78 #[.int .i64 n, .int .i64 e, .string b] w fun x w' => x = .returned (.bool (pgOk n e b)) ∧ w' = w := by
  go_enter Tryz.func78, Tryz.ntmps78
  go_wp2_with (fail)
  refine (l1In_any _ _ _ _).mono ?_
  rintro x w1 ⟨rfl, rfl⟩
  cases h1 : decide (0 ≤ n ∧ n ≤ 29)
  · have G : Hid (pgOk n e b = false) := (by unfold pgOk; rw [h1]; rfl : pgOk n e b = false)
    clear h1
    go_wp2
    go_ret
    exact ⟨by rw [G.out]; rfl, rfl⟩
  go_wp2_with (fail)
  refine (l1In_any _ _ _ _).mono ?_
  rintro x w2 ⟨rfl, rfl⟩
  cases h2 : decide (0 ≤ e ∧ e ≤ 999999999)
  · have G : Hid (pgOk n e b = false) := (by unfold pgOk; rw [h1, h2]; rfl : pgOk n e b = false)
    clear h1 h2
    go_wp2
    go_ret
    exact ⟨by rw [G.out]; rfl, rfl⟩
  have g : pgOk n e b = decide (b.size ≤ 200) := by unfold pgOk; rw [h1, h2]; simp
  clear h1 h2
  by_cases hb : b.size ≤ 200
  · have G : Hid (pgOk n e b = true) := (by rw [g]; simp [hb] : pgOk n e b = true)
    have g2 : decide ((b.size : Int) ≤ 200) = true := by simp; omega
    clear g
    go_wp2
    go_ret
    exact ⟨by rw [G.out]; rfl, rfl⟩
  · have G : Hid (pgOk n e b = false) := (by rw [g]; simp; omega : pgOk n e b = false)
    have g2 : decide ((b.size : Int) ≤ 200) = false := by simp; omega
    clear g
    go_wp2
    go_ret
    exact ⟨by rw [G.out]; rfl, rfl⟩

theorem bel_after {a b c : World} (h : Below a.heap.size a b) (k : Below b.heap.size b c) : Below a.heap.size a c := h.trans (k.mono h.size)

def semi : ByteArray := ⟨#[59]⟩
def headS (n e : Int) : ByteArray := itoaB n ++ semi ++ itoaB e ++ semi
theorem headS_size {n e : Int} (h0 : -9223372036854775808 ≤ n) (h1 : n ≤ 9223372036854775807) (k0 : -9223372036854775808 ≤ e) (k1 : e ≤ 9223372036854775807) : (headS n e).size ≤ 42 := by
  have a := itoaB_size h0 h1
  have b := itoaB_size k0 k1
  have c : semi.size = 1 := rfl
  unfold headS
  rw [ByteArray.size_append, ByteArray.size_append, ByteArray.size_append]
  omega

set_option maxHeartbeats 400000 in
theorem l2Head_any (n e : Int) (b : ByteArray) (w : World) (h0 : -9223372036854775808 ≤ n) (h1 : n ≤ 9223372036854775807) (k0 : -9223372036854775808 ≤ e) (k1 : e ≤ 9223372036854775807) :
    Calls Tryz.prog 79 #[.int .i64 n, .int .i64 e, .string b] w fun x w' => x = .returned (.string (headS n e)) ∧ Below w.heap.size w w' := by
  have s1 := itoaB_size h0 h1
  have s2 := itoaB_size k0 k1
  go_enter Tryz.func79, Tryz.ntmps79
  go_wp2_with (fail)
  refine (l2Int_any n _ h0 h1).mono ?_
  rintro x w1 ⟨rfl, hb1⟩
  have e1 : (⟨(Lib.itoa n).toArray⟩ : ByteArray) = itoaB n := rfl
  rw [e1]
  have g1 : (itoaB n ++ semi).size ≤ 21 := by rw [ByteArray.size_append]; have c : semi.size = 1 := rfl; omega
  go_wp2_with (fail)
  refine (l2Int_any e _ k0 k1).mono ?_
  rintro x w2 ⟨rfl, hb2⟩
  have e2 : (⟨(Lib.itoa e).toArray⟩ : ByteArray) = itoaB e := rfl
  rw [e2]
  go_wp2
  go_ret
  exact ⟨rfl, bel_after hb1 hb2⟩

def packS (n e : Int) (b : ByteArray) : ByteArray := ⟨#[80]⟩ ++ headS n e ++ itoaB (crcS (headS n e ++ b)) ++ semi ++ b
def packT (n e : Int) (b : ByteArray) : ByteArray := if pgOk n e b = true then packS n e b else ⟨#[]⟩

set_option maxHeartbeats 400000 in
theorem packPage_any (n e : Int) (b : ByteArray) (w : World) :
    Calls Tryz.prog 29 #[.int .i64 n, .int .i64 e, .string b] w fun x w' => x = .returned (.tuple #[.string (packT n e b), .bool (pgOk n e b)]) ∧ Below w.heap.size w w' := by
  go_enter Tryz.func29, Tryz.ntmps29
  go_wp2_with (fail)
  refine (l2Range_any _ _ _ _).mono ?_
  rintro x w1 ⟨rfl, rfl⟩
  cases h : pgOk n e b
  · have H : Hid (pgOk n e b = false) := h
    clear h
    go_wp2
    exact bodyPost_ret (v := .tuple #[.string ⟨#[]⟩, .bool false]) (by simp [results, Tryz.results29, go_sem]) rfl ⟨by unfold packT; rw [H.out]; rfl, Below.refl _ _⟩
  have H : Hid (pgOk n e b = true) := h
  obtain ⟨r1, r2, r3, r4, r5⟩ := pgOk_range h
  clear h
  have sh := headS_size (n := n) (e := e) (by omega) (by omega) (by omega) (by omega)
  obtain ⟨c1, c2⟩ := crcS_range (headS n e ++ b)
  have si := itoaB_size (n := crcS (headS n e ++ b)) (by omega) (by omega)
  have sz : (headS n e ++ b).size ≤ 1000 := by rw [ByteArray.size_append]; omega
  go_wp2_with (fail)
  refine (l2Head_any n e b _ (by omega) (by omega) (by omega) (by omega)).mono ?_
  rintro x w2 ⟨rfl, hb2⟩
  go_wp2_with (fail)
  refine (crc_any _ _ (by omega)).mono ?_
  rintro x w3 ⟨rfl, rfl⟩
  go_wp2_with (fail)
  refine (l2Int_any _ _ (by omega) (by omega)).mono ?_
  rintro x w4 ⟨rfl, hb4⟩
  have e2 : (⟨(Lib.itoa (crcS (headS n e ++ b))).toArray⟩ : ByteArray) = itoaB (crcS (headS n e ++ b)) := rfl
  rw [e2]
  clear e2
  generalize hcc : crcS (headS n e ++ b) = cc at *
  have HC : Hid (crcS (headS n e ++ b) = cc) := hcc
  clear hcc
  go_wp2
  exact bodyPost_ret (v := .tuple #[.string (⟨#[80]⟩ ++ headS n e ++ itoaB cc ++ ⟨#[59]⟩ ++ b), .bool true]) (by simp [results, Tryz.results29, go_sem]) rfl ⟨by unfold packT packS; rw [H.out, HC.out]; rfl, bel_after hb2 hb4⟩

end Go.Proofs.YtfcenohgfhefiaaGreatDoor
