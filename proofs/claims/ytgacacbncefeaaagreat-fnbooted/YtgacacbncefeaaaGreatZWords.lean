/- Words: WordOk, Int, Ref, IntOf, RefOf of the program and of the model. -/
import Derived.Test.YtgacacbncefeaaaGreatRows
import Derived.WalkKit
import Derived.WalkSpells
import Derived.WalkLawsBesides
namespace Go.Proofs.YtgacacbncefeaaaGreat
open Go.RowKit

def In64 (x : Int) : Prop := -9223372036854775808 ≤ x ∧ x ≤ 9223372036854775807
def numB (n : Int) : Bool := decide (-1000000000 ≤ n ∧ n ≤ 1000000000)
def adrB (a : Int) : Bool := decide (0 ≤ a ∧ a ≤ 3199)
/-- 2: an address, 1: a number, 0: no word. -/
def kindW (x : Int) : Int := if x % 2 = 1 then (if adrB (x / 2) = true then 2 else 0) else (if numB (x / 2) = true then 1 else 0)
def wokB (x : Int) : Bool := !decide (kindW x = 0)
def isK (k x : Int) : Bool := decide (kindW x = k)
def valK (k x : Int) : Int := if kindW x = k then x / 2 else 0
def intN (n : Int) : Int := if numB n = true then 2 * n else 0
def refN (a : Int) : Int := if adrB a = true then 2 * a + 1 else 0

theorem wret_bool {a b : Bool} (h : a = b) : Ending.returned (.bool a) = .returned (.bool b) := by rw [h]
theorem wret_int {a b : Int} (h : a = b) : Ending.returned (.int .i64 a) = .returned (.int .i64 b) := by rw [h]
theorem wret_two {a b : Int} {c d : Bool} (h : a = b) (k : c = d) : Ending.returned (.tuple #[.int .i64 a, .bool c]) = .returned (.tuple #[.int .i64 b, .bool d]) := by rw [h, k]

theorem and_one_i64 (x : Int) : bits BinOp.and IntKind.i64 x 1 = x % 2 := by
  have h : ((BitVec.ofInt 64 x &&& BitVec.ofInt 64 1).toNat : Int) = x % 2 := by
    rw [BitVec.toNat_and, show (BitVec.ofInt 64 1).toNat = 1 from rfl, Nat.and_one_is_mod, BitVec.toNat_ofInt]
    omega
  unfold bits
  show IntKind.wrap .i64 ((BitVec.ofInt 64 x &&& BitVec.ofInt 64 1).toNat : Int) = x % 2
  rw [h]
  rcases Int.emod_two_eq x with h2 | h2 <;> rw [h2] <;> rfl

theorem isOdd_any (x : Int) (w : World) :
    Calls Tryz.prog 147 #[.int .i64 x] w fun e w' => e = .returned (.bool (decide (x % 2 = 1))) ∧ w' = w := by
  go_enter Tryz.func147, Tryz.ntmps147
  go_wp2
  go_ret
  exact ⟨wret_bool (by rw [and_one_i64]; rfl), rfl⟩
theorem value_any (x : Int) (w : World) :
    Calls Tryz.prog 139 #[.int .i64 x] w fun e w' => e = .returned (.int .i64 (x / 2)) ∧ w' = w := by
  go_enter Tryz.func139, Tryz.ntmps139
  go_wp2
  go_ret
  exact ⟨rfl, rfl⟩
theorem isInt_any (x : Int) (w : World) :
    Calls Tryz.prog 97 #[.int .i64 x] w fun e w' => e = .returned (.bool (numB x)) ∧ w' = w := by
  by_cases h : -1000000000 ≤ x
  · go_enter Tryz.func97, Tryz.ntmps97
    go_wp2
    go_ret
    exact ⟨wret_bool (by unfold numB; simp [h]), rfl⟩
  · go_enter Tryz.func97, Tryz.ntmps97
    go_wp2
    go_ret
    exact ⟨wret_bool (by unfold numB; rw [decide_eq_false (by omega)]), rfl⟩
theorem isAddress_any (x : Int) (w : World) :
    Calls Tryz.prog 148 #[.int .i64 x] w fun e w' => e = .returned (.bool (adrB x)) ∧ w' = w := by
  by_cases h : 0 ≤ x
  · go_enter Tryz.func148, Tryz.ntmps148
    go_wp2
    go_ret
    exact ⟨wret_bool (by unfold adrB; simp only [h, true_and]; exact decide_eq_decide.2 (by omega)), rfl⟩
  · go_enter Tryz.func148, Tryz.ntmps148
    go_wp2
    go_ret
    exact ⟨wret_bool (by unfold adrB; rw [decide_eq_false (by omega)]), rfl⟩
theorem wl1In_any (x lo hi : Int) (w : World) :
    Calls Tryz.prog 55 #[.int .i64 x, .int .i64 lo, .int .i64 hi] w fun e w' => e = .returned (.bool (decide (lo ≤ x ∧ x ≤ hi))) ∧ w' = w := by
  by_cases h : lo ≤ x
  · go_enter Tryz.func55, Tryz.ntmps55
    go_wp2
    go_ret
    exact ⟨wret_bool (by simp [h]), rfl⟩
  · go_enter Tryz.func55, Tryz.ntmps55
    go_wp2
    go_ret
    exact ⟨wret_bool (by rw [decide_eq_false (by omega : ¬ lo ≤ x)]; rfl), rfl⟩

theorem refWord_any (x : Int) (w : World) (h : adrB x = true) :
    Calls Tryz.prog 69 #[.int .i64 x] w fun e w' => e = .returned (.int .i64 (2 * x + 1)) ∧ w' = w := by
  have h' := of_decide_eq_true h
  obtain ⟨h1, h2⟩ := h'
  clear h
  go_enter Tryz.func69, Tryz.ntmps69
  go_wp2
  go_ret
  exact ⟨rfl, rfl⟩





theorem kind_any (x : Int) (w : World) :
    Calls Tryz.prog 138 #[.int .i64 x] w fun e w' => e = .returned (.int .i64 (kindW x)) ∧ w' = w := by
  go_enter Tryz.func138, Tryz.ntmps138
  go_wp2_with fail
  refine (isOdd_any x _).mono ?_
  rintro e w1 ⟨rfl, rfl⟩
  by_cases h : x % 2 = 1
  · have hd : decide (x % 2 = 1) = true := decide_eq_true h
    rw [hd]
    clear hd
    cases ha : adrB (x / 2)
    · have G : Hid (kindW x = 0 ∧ adrB (x / 2) = false) := ⟨by unfold kindW; rw [if_pos h, ha]; rfl, ha⟩
      have h' : Hid (x % 2 = 1) := h
      clear h ha
      go_wp2_with fail
      refine (value_any x _).mono ?_
      rintro e w1 ⟨rfl, rfl⟩
      go_wp2_with fail
      refine (isAddress_any _ _).mono ?_
      rintro e w1 ⟨rfl, rfl⟩
      rw [G.out.2]
      go_wp2_with fail
      refine (isOdd_any x _).mono ?_
      rintro e w1 ⟨rfl, rfl⟩
      rw [decide_eq_true h'.out]
      go_wp2
      go_ret
      exact ⟨wret_int G.out.1.symm, rfl⟩
    · have G : Hid (kindW x = 2 ∧ adrB (x / 2) = true) := ⟨by unfold kindW; rw [if_pos h, if_pos ha], ha⟩
      clear h ha
      go_wp2_with fail
      refine (value_any x _).mono ?_
      rintro e w1 ⟨rfl, rfl⟩
      go_wp2_with fail
      refine (isAddress_any _ _).mono ?_
      rintro e w1 ⟨rfl, rfl⟩
      rw [G.out.2]
      go_wp2
      go_ret
      exact ⟨wret_int G.out.1.symm, rfl⟩
  · have hd : decide (x % 2 = 1) = false := decide_eq_false h
    rw [hd]
    have G : Hid (kindW x = (if numB (x / 2) = true then 1 else 0)) := (by unfold kindW; rw [if_neg h] : kindW x = (if numB (x / 2) = true then 1 else 0))
    have h' : Hid (decide (x % 2 = 1) = false) := hd
    clear h hd
    go_wp2_with fail
    refine (isOdd_any x _).mono ?_
    rintro e w1 ⟨rfl, rfl⟩
    rw [h'.out]
    go_wp2_with fail
    refine (value_any x _).mono ?_
    rintro e w1 ⟨rfl, rfl⟩
    go_wp2_with fail
    refine (isInt_any _ _).mono ?_
    rintro e w1 ⟨rfl, rfl⟩
    cases hn : numB (x / 2)
    · have G2 : Hid (kindW x = 0) := (by rw [G.out, hn]; rfl : kindW x = 0)
      clear hn
      go_wp2
      go_ret
      exact ⟨wret_int G2.out.symm, rfl⟩
    · have G2 : Hid (kindW x = 1) := (by rw [G.out, if_pos hn] : kindW x = 1)
      clear hn
      go_wp2
      go_ret
      exact ⟨wret_int G2.out.symm, rfl⟩
theorem isWord_any (x : Int) (w : World) :
    Calls Tryz.prog 126 #[.int .i64 x] w fun e w' => e = .returned (.bool (wokB x)) ∧ w' = w := by
  go_enter Tryz.func126, Tryz.ntmps126
  go_wp2_with fail
  refine (kind_any x _).mono ?_
  rintro e w1 ⟨rfl, rfl⟩
  go_wp2
  go_ret
  exact ⟨wret_bool rfl, rfl⟩
theorem implWordOk_any (x : Int) (w : World) :
    Calls Tryz.prog 117 #[.int .i64 x] w fun e w' => e = .returned (.bool (wokB x)) ∧ w' = w := by
  go_enter Tryz.func117, Tryz.ntmps117
  go_wp2_with fail
  refine (isWord_any x _).mono ?_
  rintro e w1 ⟨rfl, rfl⟩
  go_wp2
  go_ret
  exact ⟨rfl, rfl⟩
theorem valueAs_any (k x : Int) (w : World) :
    Calls Tryz.prog 124 #[.int .i64 x, .int .i64 k] w fun e w' => e = .returned (.tuple #[.int .i64 (valK k x), .bool (isK k x)]) ∧ w' = w := by
  go_enter Tryz.func124, Tryz.ntmps124
  go_wp2_with fail
  refine (kind_any x _).mono ?_
  rintro e w1 ⟨rfl, rfl⟩
  by_cases h : kindW x = k
  · have G : Hid (valK k x = x / 2 ∧ isK k x = true) := ⟨by unfold valK; rw [if_pos h], by unfold isK; exact decide_eq_true h⟩
    have hb : (kindW x != k) = false := by rw [h]; simp
    clear h
    go_wp2_with fail
    refine (value_any x _).mono ?_
    rintro e w1 ⟨rfl, rfl⟩
    go_wp2
    go_ret2
    exact ⟨wret_two G.out.1.symm G.out.2.symm, rfl⟩
  · have G : Hid (valK k x = 0 ∧ isK k x = false) := ⟨by unfold valK; rw [if_neg h], by unfold isK; exact decide_eq_false h⟩
    have hb : (kindW x != k) = true := by rw [bne_iff_ne]; exact h
    clear h
    go_wp2
    go_ret2
    exact ⟨wret_two G.out.1.symm G.out.2.symm, rfl⟩
theorem implIntOf_any (x : Int) (w : World) :
    Calls Tryz.prog 120 #[.int .i64 x] w fun e w' => e = .returned (.tuple #[.int .i64 (valK 1 x), .bool (isK 1 x)]) ∧ w' = w := by
  go_enter Tryz.func120, Tryz.ntmps120
  go_wp2_with fail
  refine (valueAs_any 1 x _).mono ?_
  rintro e w1 ⟨rfl, rfl⟩
  go_wp2
  go_ret2
  exact ⟨rfl, rfl⟩
theorem implRefOf_any (x : Int) (w : World) :
    Calls Tryz.prog 115 #[.int .i64 x] w fun e w' => e = .returned (.tuple #[.int .i64 (valK 2 x), .bool (isK 2 x)]) ∧ w' = w := by
  go_enter Tryz.func115, Tryz.ntmps115
  go_wp2_with fail
  refine (valueAs_any 2 x _).mono ?_
  rintro e w1 ⟨rfl, rfl⟩
  go_wp2
  go_ret2
  exact ⟨rfl, rfl⟩

theorem tmod_two (x : Int) : (x.tmod 2 == 0) = decide (x % 2 = 0) := by
  rw [Bool.eq_iff_iff]
  simp only [beq_iff_eq, decide_eq_true_eq]
  constructor
  · intro h
    exact Int.emod_eq_zero_of_dvd (Int.dvd_of_tmod_eq_zero h)
  · intro h
    exact Int.tmod_eq_zero_of_dvd (Int.dvd_of_emod_eq_zero h)
theorem wok_even {x : Int} (h : x % 2 = 0) : wokB x = decide (-2000000000 ≤ x ∧ x ≤ 2000000000) := by
  unfold wokB kindW numB
  rw [if_neg (by omega)]
  by_cases h2 : -1000000000 ≤ x / 2 ∧ x / 2 ≤ 1000000000
  · rw [if_pos (decide_eq_true h2)]
    rw [decide_eq_true (show -2000000000 ≤ x ∧ x ≤ 2000000000 by omega)]
    rfl
  · rw [if_neg (by rw [decide_eq_false h2]; simp)]
    rw [decide_eq_false (show ¬ (-2000000000 ≤ x ∧ x ≤ 2000000000) by omega)]
    rfl
theorem wok_odd {x : Int} (h : ¬ x % 2 = 0) : wokB x = decide (1 ≤ x ∧ x ≤ 6399) := by
  unfold wokB kindW adrB
  rw [if_pos (by omega)]
  by_cases h2 : 0 ≤ x / 2 ∧ x / 2 ≤ 3199
  · rw [if_pos (decide_eq_true h2)]
    rw [decide_eq_true (show 1 ≤ x ∧ x ≤ 6399 by omega)]
    rfl
  · rw [if_neg (by rw [decide_eq_false h2]; simp)]
    rw [decide_eq_false (show ¬ (1 ≤ x ∧ x ≤ 6399) by omega)]
    rfl
theorem specWordOk_any (x : Int) (w : World) :
    Calls Tryz.prog 112 #[.int .i64 x] w fun e w' => e = .returned (.bool (wokB x)) ∧ w' = w := by
  by_cases h : x % 2 = 0
  · have G : Hid (wokB x = decide (-2000000000 ≤ x ∧ x ≤ 2000000000)) := wok_even h
    have t : (x.tmod 2 == 0) = true := by rw [tmod_two]; exact decide_eq_true h
    clear h
    go_enter Tryz.func112, Tryz.ntmps112
    go_wp2_with fail
    refine (wl1In_any _ _ _ _).mono ?_
    rintro e w1 ⟨rfl, rfl⟩
    go_wp2
    go_ret
    exact ⟨wret_bool (by rw [G.out, Bool.decide_and]), rfl⟩
  · have G : Hid (wokB x = decide (1 ≤ x ∧ x ≤ 6399)) := wok_odd h
    have t : (x.tmod 2 == 0) = false := by rw [tmod_two]; exact decide_eq_false h
    clear h
    go_enter Tryz.func112, Tryz.ntmps112
    go_wp2_with fail
    refine (wl1In_any _ _ _ _).mono ?_
    rintro e w1 ⟨rfl, rfl⟩
    go_wp2
    go_ret
    exact ⟨wret_bool (by rw [G.out, Bool.decide_and]), rfl⟩
theorem wok_kind_even {x : Int} (h : x % 2 = 0) : isK 1 x = wokB x ∧ isK 2 x = false := by
  unfold isK wokB kindW
  rw [if_neg (by omega)]
  cases numB (x / 2) <;> exact ⟨by decide, by decide⟩
theorem wok_kind_odd {x : Int} (h : ¬ x % 2 = 0) : isK 2 x = wokB x ∧ isK 1 x = false := by
  unfold isK wokB kindW
  rw [if_pos (by omega)]
  cases adrB (x / 2) <;> exact ⟨by decide, by decide⟩
theorem valK_no {k x : Int} (h : isK k x = false) : valK k x = 0 := by unfold valK; rw [if_neg (of_decide_eq_false h)]
theorem valK_yes {k x : Int} (h : isK k x = true) : valK k x = x / 2 := by unfold valK; rw [if_pos (of_decide_eq_true h)]
theorem tdiv_even {x : Int} (h : x % 2 = 0) : x.tdiv 2 = x / 2 := Int.tdiv_eq_ediv_of_dvd (Int.dvd_of_emod_eq_zero h)


end Go.Proofs.YtgacacbncefeaaaGreat
