/- OpenPage of the program. -/
import Derived.Test.YtfcenohgfhefiaaGreatDoorCode
namespace Go.Proofs.YtfcenohgfhefiaaGreatDoor
open Go.RowKit

structure Ctx (a0 a1 a2 a3 : Addr) (w : World) : Prop where
  env : Env w
  errs : Errs a0 a1 a2 a3 w
  rws : Rws a0 a1 a2 a3 w
  hd : Hd w
  four : Four a0 a1 a2 a3
theorem Ctx.later {a0 a1 a2 a3 : Addr} {w w' : World} (h : Ctx a0 a1 a2 a3 w) (hb : Below w.heap.size w w') : Ctx a0 a1 a2 a3 w' :=
  ⟨h.env.later hb, h.errs.later hb, h.rws.later hb, cell_later hb h.hd, h.four⟩

set_option maxRecDepth 100000 in
set_option maxHeartbeats 1000000 in
theorem open_err (s : ByteArray) (a : Addr) (k : Int) (w : World) (hk : k ≠ 0)
    (A : Calls Tryz.prog 132 #[.string s] w fun x w' => (∃ part, x = .returned (.tuple #[pageV 0 0 0 ⟨#[]⟩, errV part a])) ∧ Below w.heap.size w w')
    (D : ∀ part w', Below w.heap.size w w' → Calls Tryz.prog 133 #[errV part a] w' fun e w'' => e = .returned (.int .i64 k) ∧ Below w'.heap.size w' w'') :
    Calls Tryz.prog 123 #[.string s] w fun x w' => x = .returned (openV (0, 0, ⟨#[]⟩, k)) ∧ Below w.heap.size w w' := by
  have hk' : (k != 0) = true := by simpa using hk
  unfold pageV errV at A
  unfold errV at D
  go_enter Tryz.func123, Tryz.ntmps123
  go_wp2_with fail
  refine A.mono ?_
  rintro x w1 ⟨⟨part, rfl⟩, hb1⟩
  have hb2 := bel_after hb1 (bel_one w1 (.cells #[.int .i64 0, .int .i64 0, .int .i64 0, .string ⟨#[]⟩] 134))
  have D1 := D part _ hb2
  go_wp2_with fail
  refine D1.mono ?_
  rintro x w3 ⟨rfl, hb3⟩
  go_wp2
  exact bodyPost_ret (v := openV (0, 0, ⟨#[]⟩, k)) (by simp [results, Tryz.results123, go_sem, openV]) rfl ⟨rfl, bel_after hb2 hb3⟩

set_option maxRecDepth 100000 in
set_option maxHeartbeats 3200000 in
theorem open_ok (s : ByteArray) (n e c : Int) (b : ByteArray) (w : World) (hb : b.size ≤ 1000000000000)
    (A : Calls Tryz.prog 132 #[.string s] w fun x w' => x = .returned (.tuple #[pageV n e c b, .nilIface]) ∧ Below w.heap.size w w') :
    Calls Tryz.prog 123 #[.string s] w fun x w' => x = .returned (openV (n, e, b, 0)) ∧ Below w.heap.size w w' := by
  unfold pageV at A
  go_enter Tryz.func123, Tryz.ntmps123
  go_wp2_with fail
  refine A.mono ?_
  rintro x w1 ⟨rfl, hb1⟩
  have hb2 := bel_after hb1 (bel_one w1 (.cells #[.int .i64 n, .int .i64 e, .int .i64 c, .string b] 134))
  go_wp2_with fail
  refine (code_nil _).mono ?_
  rintro x w3 ⟨rfl, hb3⟩
  have q0 : w3.cell? ⟨w1.heap.size, 0, none⟩ = some (.int .i64 n) := cell_later hb3 (by simp)
  have q1 : w3.cell? ⟨w1.heap.size, 1, none⟩ = some (.int .i64 e) := cell_later hb3 (by simp)
  have q2 : w3.cell? ⟨w1.heap.size, 2, none⟩ = some (.int .i64 c) := cell_later hb3 (by simp)
  have q3 : w3.cell? ⟨w1.heap.size, 3, none⟩ = some (.string b) := cell_later hb3 (by simp)
  have hbw := bel_after hb2 hb3
  clear A hb1 hb2 hb3
  go_wp2_with fail
  go_region_held3 (fun w' => Below w3.heap.size w3 w' ∧ w'.cell? ⟨w1.heap.size, 0, none⟩ = some (.int .i64 n) ∧ w'.cell? ⟨w1.heap.size, 1, none⟩ = some (.int .i64 e) ∧ w'.cell? ⟨w1.heap.size, 2, none⟩ = some (.int .i64 c) ∧ w'.cell? ⟨w1.heap.size, 3, none⟩ = some (.string b))
      (first | assumption | (refine ⟨(Below.refl _ _).drew, ?_, ?_, ?_, ?_⟩ <;> simp [q0, q1, q2, q3]) | (exact keep4 (by assumption) (by assumption)))
      (first
        | (go_at_call 94; refine (copyText_any _ _ (by omega)).mono ?_; rintro x w4 ⟨rfl, hb4⟩))
  all_goals
    go_wp2
    exact bodyPost_ret (v := openV (n, e, b, 0)) (by simp [results, Tryz.results123, go_sem, openV]) rfl ⟨rfl, bel_after hbw (And.left (by assumption))⟩

theorem implOpen_any (s : ByteArray) (a0 a1 a2 a3 : Addr) (w : World) (hs : s.size < 4294967281) (hC : Ctx a0 a1 a2 a3 w) :
    Calls Tryz.prog 123 #[.string s] w fun x w' => x = .returned (openV (openR s)) ∧ Below w.heap.size w w' := by
  have R := readPage_any s a0 a1 a2 a3 w hs hC.env hC.errs
  unfold readV at R
  by_cases h0 : s = ⟨#[]⟩
  · have e0 : openR s = (0, 0, ⟨#[]⟩, 1) := by unfold openR; rw [if_pos h0]
    rw [e0]
    simp only [if_pos h0] at R
    exact open_err s a2 1 w (by decide) R fun part w' hb => code_2 part a0 a1 a2 a3 w' (hC.later hb).hd (hC.later hb).errs
  simp only [if_neg h0] at R
  cases hf : formN s.data.toList with
  | none =>
    rw [hf] at R
    rw [openR_form h0 hf]
    exact open_err s a3 2 w (by decide) R fun part w' hb => code_3 part a0 a1 a2 a3 w' (hC.later hb).hd (hC.later hb).errs hC.four (hC.later hb).rws
  | some x =>
    obtain ⟨n, e, c, b⟩ := x
    rw [hf] at R
    simp only at R
    obtain ⟨_, _, _, _, k4⟩ := form_range hf
    have k5 : s.data.toList.length = s.size := Array.length_toList
    cases hp : pgOk n e (bytesOf b)
    · rw [openR_range h0 hf hp]
      simp only [formV_range hp] at R
      exact open_err s a0 3 w (by decide) R fun part w' hb => code_0 part a0 a1 a2 a3 w' (hC.later hb).hd (hC.later hb).errs hC.four (hC.later hb).rws
    · by_cases hc : crcS (headS n e ++ bytesOf b) = c
      · rw [openR_is h0 hf hp hc]
        simp only [formV_is hp hc] at R
        exact open_ok s n e c (bytesOf b) w (by rw [bytesOf_size]; omega) (R.mono fun x w' ⟨⟨_, he⟩, hb⟩ => ⟨he, hb⟩)
      · rw [openR_sum h0 hf hp hc]
        simp only [formV_sum hp hc] at R
        exact open_err s a1 4 w (by decide) R fun part w' hb => code_1 part a0 a1 a2 a3 w' (hC.later hb).hd (hC.later hb).errs hC.four (hC.later hb).rws

end Go.Proofs.YtfcenohgfhefiaaGreatDoor
