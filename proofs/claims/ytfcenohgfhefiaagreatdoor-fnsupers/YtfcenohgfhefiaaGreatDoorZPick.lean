/- pick and big of the laws. -/
import Derived.Test.YtfcenohgfhefiaaGreatDoorZDraw2
namespace Go.Proofs.YtfcenohgfhefiaaGreatDoor
open Go.RowKit

set_option maxRecDepth 100000 in
set_option maxHeartbeats 1600000 in
theorem pick_any (cv : Value) (cs : List UInt8) (n : Int) (w : World) (hc : BR w cv cs) (hl : cs.length ≤ 5000) (h0 : 0 < n) (h1 : n ≤ 1000000) :
    Calls Tryz.prog 31 #[cv, .int .i64 n] w fun x w' => (∃ z : Nat, x = .returned (.int .i64 z) ∧ (z : Int) < n) ∧ Below w.heap.size w w' := by
  obtain ⟨ao, cap, rfl, hcap, hr⟩ := hc
  go_enter Tryz.func31, Tryz.ntmps31
  go_wp2
  go_loopw [5, 6] (fun hv iv wr => ∃ (k H : Nat), k ≤ cs.length ∧ iv = .int .i64 k ∧ hv = .int .i64 H ∧ H ≤ 2000000 ∧ Below w.heap.size w wr) (fun _ iv _ => cs.length - (intOf iv).toNat)
  case atStart => exact ⟨0, cs.length, Nat.zero_le _, rfl, rfl, by omega, Below.refl _ _⟩
  case round =>
    obtain ⟨k, H, hk, rfl, rfl, hH, hb⟩ := hrel
    by_cases hlt : k < cs.length
    · obtain ⟨b, o, rfl, hx⟩ := hr k hlt
      have hx1 := cell_later hb hx
      have hy := (cs[k]).toNat_lt
      have hm0 : 0 ≤ ((H : Int) * 67 + (cs[k].toNat : Int)) % 1000003 := Int.emod_nonneg _ (by omega)
      have hm1 : ((H : Int) * 67 + (cs[k].toNat : Int)) % 1000003 < 1000003 := Int.emod_lt_of_pos _ (by omega)
      clear hr hx
      generalize cs[k].toNat = y at *
      go_wp2
      exact ⟨⟨k + 1, (((H : Int) * 67 + (y : Int)) % 1000003).toNat, by omega, by go_num, by rw [Int.toNat_of_nonneg hm0], by omega, hb⟩, by simp [intOf]; omega⟩
    · obtain rfl : k = cs.length := by omega
      have hm0 : 0 ≤ (H : Int) % n := Int.emod_nonneg _ (by omega)
      have hm1 : (H : Int) % n < n := Int.emod_lt_of_pos _ h0
      have nz : ¬ n = 0 := by omega
      obtain ⟨m, hm⟩ := Int.eq_ofNat_of_zero_le hm0
      have HM : Hid ((H : Int) % n = m) := hm
      have hm2 : (m : Int) < n := by rw [← hm]; exact hm1
      clear hm
      go_wp2
      rw [HM.out]
      go_ret
      exact ⟨⟨m, rfl, hm2⟩, hb⟩

theorem big_any (cv : Value) (cs : List UInt8) (w : World) (hc : BR w cv cs) :
    Calls Tryz.prog 9 #[cv] w fun x w' => x = .returned (.bool (decide (4096 < cs.length))) ∧ w' = w := by
  obtain ⟨ao, cap, rfl, hcap, hr⟩ := hc
  have e : decide (4096 < cs.length) = decide ((4096 : Int) < (cs.length : Int)) := by rw [decide_eq_decide]; omega
  rw [e]
  go_enter Tryz.func9, Tryz.ntmps9
  go_wp2
  go_ret
  exact ⟨rfl, rfl⟩

end Go.Proofs.YtfcenohgfhefiaaGreatDoor
