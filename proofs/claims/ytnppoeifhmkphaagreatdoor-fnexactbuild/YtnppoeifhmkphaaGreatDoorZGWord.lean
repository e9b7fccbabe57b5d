/- l6Word of the model. -/
import Derived.Test.YtnppoeifhmkphaaGreatDoorZMD
namespace Go.Proofs.YtnppoeifhmkphaaGreatDoor
open Go.RowKit

theorem l6Word_any (x : Int) (n : Nat) (w : World) (hx : x ≤ 9223372036854775807) :
    Calls Tryz.prog 19 #[.int .i64 x, .int .i64 (n : Int)] w fun e w' => e = .returned (.bool (wordG n x)) ∧ w' = w := by
  by_cases h : x % 2 = 0
  · have G : Hid (wordG n x = wokB x) := (by unfold wordG; rw [if_pos h] : wordG n x = wokB x)
    have t : (x.tmod 2 == 0) = true := by rw [tmod_two]; exact decide_eq_true h
    clear h
    go_enter Tryz.func19, Tryz.ntmps19
    go_wp2_with fail
    refine (specWordOk_any _ _).mono ?_
    rintro e w1 ⟨rfl, rfl⟩
    go_wp2
    go_ret
    exact ⟨wret_bool (by rw [G.out]), rfl⟩
  · have t : (x.tmod 2 == 0) = false := by rw [tmod_two]; exact decide_eq_false h
    have t2 : (x % 2 == 0) = false := decide_eq_false h
    by_cases h0 : 0 < x
    · have e : x.tdiv 2 = x / 2 := Int.tdiv_eq_ediv_of_nonneg (by omega)
      have G : Hid (wordG n x = decide (x / 2 < (n : Int))) := (by
        unfold wordG
        rw [if_neg h]
        by_cases k : x / 2 < (n : Int)
        · rw [decide_eq_true k, decide_eq_true ⟨h0, k⟩]
        · rw [decide_eq_false k, decide_eq_false (fun q => k q.2)] : wordG n x = decide (x / 2 < (n : Int)))
      rw [← e] at G
      have r0 : 0 ≤ x.tdiv 2 := by rw [e]; omega
      have r1 : x.tdiv 2 ≤ 4611686018427387904 := by rw [e]; omega
      have d0 : decide (0 < x) = true := decide_eq_true h0
      clear h e
      go_enter Tryz.func19, Tryz.ntmps19
      go_wp2
      go_ret
      exact ⟨wret_bool (by rw [G.out]), rfl⟩
    · have G : Hid (wordG n x = false) := (by
        unfold wordG
        rw [if_neg h, decide_eq_false (fun q => h0 q.1)] : wordG n x = false)
      have d0 : decide (0 < x) = false := decide_eq_false h0
      clear h
      go_enter Tryz.func19, Tryz.ntmps19
      go_wp2
      go_ret
      exact ⟨wret_bool (by rw [G.out]), rfl⟩

end Go.Proofs.YtnppoeifhmkphaaGreatDoor
