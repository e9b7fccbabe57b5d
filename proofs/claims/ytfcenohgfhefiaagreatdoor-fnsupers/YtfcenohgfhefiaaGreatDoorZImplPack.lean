/- PackPage of the program. -/
import Derived.Test.YtfcenohgfhefiaaGreatDoorZMC
namespace Go.Proofs.YtfcenohgfhefiaaGreatDoor
open Go.RowKit

set_option maxRecDepth 100000 in
set_option maxHeartbeats 3200000 in
theorem implPack_any (n e : Int) (b : ByteArray) (te : TypeId) (pe : Addr) (w : World) (hv : w.cell? ⟨1, 0, none⟩ = some (.iface te (.pointer (some pe)))) (ht : Tb w) :
    Calls Tryz.prog 91 #[.int .i64 n, .int .i64 e, .string b] w fun x w' => x = .returned (.tuple #[.string (packT n e b), .bool (pgOk n e b)]) ∧ Below w.heap.size w w' := by
  have hv1 : (w.alloc (.cells #[.int .i64 n, .int .i64 e, .int .i64 0, .string b] 134)).cell? ⟨1, 0, none⟩ = some (.iface te (.pointer (some pe))) := cell_later (bel_one _ _) hv
  have ht1 : Tb (w.alloc (.cells #[.int .i64 n, .int .i64 e, .int .i64 0, .string b] 134)) := ht.later (bel_one _ _)
  have C := checkRange_any n e 0 b te pe _ hv1
  unfold pageV at C
  go_enter Tryz.func91, Tryz.ntmps91
  go_wp2_with fail
  refine C.mono ?_
  rintro x w1 ⟨⟨part, rfl⟩, hb1⟩
  clear C
  cases h : pgOk n e b
  · have H : Hid (pgOk n e b = false) := h
    rw [rangeV_no h]
    clear h
    go_wp2
    exact bodyPost_ret (v := .tuple #[.string ⟨#[]⟩, .bool false]) (by simp [results, Tryz.results91, go_sem]) rfl ⟨by unfold packT; rw [H.out]; rfl, bel_after (bel_one _ _) hb1⟩
  have H : Hid (pgOk n e b = true) := h
  rw [rangeV_yes h]
  obtain ⟨r1, r2, r3, r4, r5⟩ := pgOk_range h
  clear h
  have sh := headS_size (n := n) (e := e) (by omega) (by omega) (by omega) (by omega)
  obtain ⟨c1, c2⟩ := crcS_range (headS n e ++ b)
  have si := itoaB_size (n := crcS (headS n e ++ b)) (by omega) (by omega)
  have PH := fun w' => pageHead_any n e 0 b w' (by omega) (by omega) (by omega) (by omega)
  have PS := fun w' => pageSum_any n e 0 b w' (by omega) (by omega) (by omega) (by omega) (by omega)
  unfold pageV at PH PS
  have q0 : w1.cell? ⟨w.heap.size, 0, none⟩ = some (.int .i64 n) := cell_later hb1 (by simp)
  have q1 : w1.cell? ⟨w.heap.size, 1, none⟩ = some (.int .i64 e) := cell_later hb1 (by simp)
  have q2 : w1.cell? ⟨w.heap.size, 2, none⟩ = some (.int .i64 0) := cell_later hb1 (by simp)
  have q3 : w1.cell? ⟨w.heap.size, 3, none⟩ = some (.string b) := cell_later hb1 (by simp)
  have HC : Hid (packS n e b = ⟨#[80]⟩ ++ headS n e ++ itoaB (crcS (headS n e ++ b)) ++ ⟨#[59]⟩ ++ b) := (rfl : packS n e b = ⟨#[80]⟩ ++ headS n e ++ itoaB (crcS (headS n e ++ b)) ++ ⟨#[59]⟩ ++ b)
  generalize crcS (headS n e ++ b) = cc at *
  have g1 : ¬ 9223372036854775807 < 1 + (headS n e).size := by omega
  have g2 : ¬ 9223372036854775807 < 1 + (headS n e).size + (itoaB cc).size := by omega
  have g3 : ¬ 9223372036854775807 < 1 + (headS n e).size + (itoaB cc).size + 1 := by omega
  have g4 : ¬ 9223372036854775807 < 1 + (headS n e).size + (itoaB cc).size + 1 + b.size := by omega
  have ht2 : Tb w1 := ht1.later hb1
  have hbw : Below w.heap.size w w1 := bel_after (bel_one _ _) hb1
  clear hv hv1 ht1 ht hb1
  go_wp2_with fail
  go_region_held3 (fun w' => Below w1.heap.size w1 w' ∧ w'.cell? ⟨w.heap.size, 0, none⟩ = some (.int .i64 n) ∧ w'.cell? ⟨w.heap.size, 1, none⟩ = some (.int .i64 e) ∧ w'.cell? ⟨w.heap.size, 2, none⟩ = some (.int .i64 0) ∧ w'.cell? ⟨w.heap.size, 3, none⟩ = some (.string b))
    (first | assumption | (refine ⟨(Below.refl _ _).drew, ?_, ?_, ?_, ?_⟩ <;> simp [q0, q1, q2, q3]) | (exact keep4 (by assumption) (by assumption)))
    (first
      | (go_at_call 116; refine (PH _ ?_).mono ?_; (focus (exact ht2.held (by assumption))); rintro x w2 ⟨rfl, hb2⟩)
      | (go_at_call 117; refine (PS _ ?_).mono ?_; (focus (exact ht2.held (by assumption))); rintro x w3 ⟨rfl, hb3⟩)
      | (go_at_call 73; refine (fmt_any _ _ (by omega) (by omega) ?_).mono ?_; (focus (exact ht2.held (by assumption))); rintro x w4 ⟨rfl, hb4⟩))
  all_goals
    go_wp2
    exact bodyPost_ret (v := .tuple #[.string (⟨#[80]⟩ ++ headS n e ++ itoaB cc ++ ⟨#[59]⟩ ++ b), .bool true]) (by simp [results, Tryz.results91, go_sem]) rfl ⟨by unfold packT; rw [H.out, HC.out]; rfl, bel_after hbw (And.left (by assumption))⟩

end Go.Proofs.YtfcenohgfhefiaaGreatDoor
