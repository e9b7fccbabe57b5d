/- Lists and disks that are alike, by the laws' own functions. -/
import Derived.Test.YtddocjmjianajaaZMG
import Derived.Laws.StructEq
namespace Go.Proofs.Ytddocjmjianajaa
open Go.RowKit

set_option maxHeartbeats 400000 in
theorem likeTexts_same (v u : Value) (ss : List ByteArray) (w : World) (hv : Disk.SR w v ss) (hu : Disk.SR w u ss) (h1 : ss.length ≤ 1000000000000000) :
    Calls Try.prog 13 #[v, u] w fun e w' => e = .returned (.bool true) ∧ Below w.heap.size w w' := by
  obtain ⟨ao, cap, rfl, hv⟩ := hv
  obtain ⟨bo, cbp, rfl, hu⟩ := hu
  have hl' : ((ss.length : Int) != (ss.length : Int)) = false := by simp
  go_enter Try.func13, Try.ntmps13
  go_wp2
  go_loopw [5] (fun a wr => ∃ (k : Nat), a = .int .i64 k ∧ k ≤ ss.length ∧ ∃ n, wr = w.drewN n) (fun a _ => (ss.length - (intOf a).toNat))
  case atStart => exact ⟨0, rfl, Nat.zero_le _, 0, rfl⟩
  case round =>
    obtain ⟨k, rfl, hk, n, rfl⟩ := hrel
    by_cases hlt : k < ss.length
    · obtain ⟨b, o, rfl, hc⟩ := hv k hlt
      obtain ⟨b', o', rfl, hc'⟩ := hu k hlt
      generalize ss.getD k ByteArray.empty = s at *
      clear hv hu
      go_wp2
      go_region
      all_goals go_wp2
      go_roundw
      case rel => exact ⟨k + 1, by go_num, by omega, _, rfl⟩
      case measure => simp [intOf]; omega
    · go_wp2
      go_ret
      exact ⟨rfl, below_drewN (Below.refl _ _) _⟩

set_option maxHeartbeats 400000 in
theorem likeWrites_same (v u : Value) (ss : List Disk.Wr) (w : World) (hv : Disk.WR w v ss) (hu : Disk.WR w u ss) (h1 : ss.length ≤ 1000000000000000) :
    Calls Try.prog 30 #[v, u] w fun e w' => e = .returned (.bool true) ∧ Below w.heap.size w w' := by
  obtain ⟨ao, cap, rfl, hv⟩ := hv
  obtain ⟨bo, cbp, rfl, hu⟩ := hu
  have hl' : ((ss.length : Int) != (ss.length : Int)) = false := by simp
  go_enter Try.func30, Try.ntmps30
  go_wp2
  go_loopw [5] (fun a wr => ∃ (k : Nat), a = .int .i64 k ∧ k ≤ ss.length ∧ ∃ n, wr = w.drewN n) (fun a _ => (ss.length - (intOf a).toNat))
  case atStart => exact ⟨0, rfl, Nat.zero_le _, 0, rfl⟩
  case round =>
    obtain ⟨k, rfl, hk, n, rfl⟩ := hrel
    by_cases hlt : k < ss.length
    · obtain ⟨b, o, rfl, hc, hd⟩ := hv k hlt
      obtain ⟨b', o', rfl, hc', hd'⟩ := hu k hlt
      generalize (ss.getD k Disk.wr0).1 = s at *
      generalize (ss.getD k Disk.wr0).2 = t at *
      clear hv hu
      go_wp2
      go_region
      all_goals go_wp2
      go_roundw
      case rel => exact ⟨k + 1, by go_num, by omega, _, rfl⟩
      case measure => simp [intOf]; omega
    · go_wp2
      go_ret
      exact ⟨rfl, below_drewN (Below.refl _ _) _⟩

set_option maxHeartbeats 400000 in
theorem likeDisk_same (v1 v2 u1 u2 : Value) (ss : List ByteArray) (ws : List Disk.Wr) (w : World) (hv : Disk.SR w v1 ss) (hu : Disk.SR w u1 ss) (hv2 : Disk.WR w v2 ws) (hu2 : Disk.WR w u2 ws) (h1 : ss.length ≤ 1000000000000000) (h2 : ws.length ≤ 1000000000000000) :
    Calls Try.prog 9 #[.agg #[v1, v2], .agg #[u1, u2]] w fun e w' => e = .returned (.bool true) ∧ Below w.heap.size w w' := by
  obtain ⟨a1, k1, rfl, hv⟩ := hv
  obtain ⟨a2, k2, rfl, hu⟩ := hu
  obtain ⟨a3, k3, rfl, hv2⟩ := hv2
  obtain ⟨a4, k4, rfl, hu2⟩ := hu2
  have LT := fun W (hb : Below w.heap.size w W) => likeTexts_same (.slice a1 ss.length k1) (.slice a2 ss.length k2) ss W (Disk.SR.later ⟨a1, k1, rfl, hv⟩ hb) (Disk.SR.later ⟨a2, k2, rfl, hu⟩ hb) h1
  have LW := fun W (hb : Below w.heap.size w W) => likeWrites_same (.slice a3 ws.length k3) (.slice a4 ws.length k4) ws W (Disk.WR.later ⟨a3, k3, rfl, hv2⟩ hb) (Disk.WR.later ⟨a4, k4, rfl, hu2⟩ hb) h2
  clear hv hu hv2 hu2
  go_enter Try.func9, Try.ntmps9
  go_wp2_with fail
  have hb0 := Disk.bel_two w (.cells #[.slice a1 ss.length k1, .slice a3 ws.length k3] 27) (.cells #[.slice a2 ss.length k2, .slice a4 ws.length k4] 27)
  have bA := (Bx.new w (.slice a1 ss.length k1) (.slice a3 ws.length k3)).later (Disk.bel_one _ (.cells #[.slice a2 ss.length k2, .slice a4 ws.length k4] 27))
  have bB := Bx.new (w.alloc (.cells #[.slice a1 ss.length k1, .slice a3 ws.length k3] 27)) (.slice a2 ss.length k2) (.slice a4 ws.length k4)
  refine (LT _ hb0).mono ?_
  rintro x w3 ⟨rfl, hb3⟩
  have y1 := (bA.later hb3).c1
  have y2 : w3.cell? ⟨w.heap.size + 1, 1, none⟩ = some (.slice a4 ws.length k4) := by simpa using (bB.later hb3).c1
  have hb4 := bel_after hb0 hb3
  have LW3 := LW w3 hb4
  clear LT LW bA bB
  go_wp2_with fail
  refine LW3.mono ?_
  rintro x w5 ⟨rfl, hb5⟩
  go_wp2
  go_ret
  exact ⟨rfl, bel_after hb4 hb5⟩

end Go.Proofs.Ytddocjmjianajaa
