/- checkRange of the program. -/
import Derived.Test.YtjclpbaiiklhcaaGreatDoorZV1
namespace Go.Proofs.YtjclpbaiiklhcaaGreatDoor
open Go.RowKit

/-- The error that checkRange makes, or none. -/
def rangeV (n e : Int) (b : ByteArray) (part : ByteArray) (ev : Value) : Value := if pgOk n e b = true then .nilIface else .iface 122 (.agg #[.string part, ev])
theorem rangeV_no {n e : Int} {b part : ByteArray} {ev : Value} (h : pgOk n e b = false) : rangeV n e b part ev = .iface 122 (.agg #[.string part, ev]) := by unfold rangeV; rw [if_neg (by rw [h]; simp)]
theorem rangeV_yes {n e : Int} {b part : ByteArray} {ev : Value} (h : pgOk n e b = true) : rangeV n e b part ev = .nilIface := by unfold rangeV; rw [if_pos h]

set_option maxRecDepth 100000 in
set_option maxHeartbeats 3200000 in
theorem checkRange_any (n e s : Int) (b : ByteArray) (te : TypeId) (pe : Addr) (w : World) (hv : w.cell? ⟨1, 0, none⟩ = some (.iface te (.pointer (some pe)))) :
    Calls Tryz.prog 75 #[pageV n e s b] w fun x w' => (∃ part, x = .returned (rangeV n e b part (.iface te (.pointer (some pe))))) ∧ Below w.heap.size w w' := by
  have hv1 : (w.alloc (.cells #[.int .i64 n, .int .i64 e, .int .i64 s, .string b] 104)).cell? ⟨1, 0, none⟩ = some (.iface te (.pointer (some pe))) := cell_later (bel_one _ _) hv
  clear hv
  unfold pageV
  by_cases h : pgOk n e b = true
  · obtain ⟨r1, r2, r3, r4, r5⟩ := pgOk_range h
    have H : Hid (pgOk n e b = true) := h
    clear h
    go_enter Tryz.func75, Tryz.ntmps75
    go_wp2
    go_ret
    exact ⟨⟨⟨#[]⟩, by rw [rangeV_yes H.out]; rfl⟩, bel_one _ _⟩
  · have H : Hid (pgOk n e b = false) := (by simpa using h : pgOk n e b = false)
    have hq : n < 0 ∨ 30 ≤ n ∨ (0 ≤ n ∧ n < 30) ∧ (e < 0 ∨ 999999999 < e ∨ (0 ≤ e ∧ e ≤ 999999999) ∧ 200 < b.size) := by
      unfold pgOk at h
      simp at h
      omega
    clear h
    rcases hq with hq | hq | ⟨⟨a1, a2⟩, hq⟩
    · go_enter Tryz.func75, Tryz.ntmps75
      go_wp2
      go_ret
      exact ⟨⟨_, by rw [rangeV_no H.out]; rfl⟩, bel_one _ _⟩
    · go_enter Tryz.func75, Tryz.ntmps75
      go_wp2
      go_ret
      exact ⟨⟨_, by rw [rangeV_no H.out]; rfl⟩, bel_one _ _⟩
    rcases hq with hq | hq | ⟨⟨b1, b2⟩, hq⟩
    · go_enter Tryz.func75, Tryz.ntmps75
      go_wp2
      go_ret
      exact ⟨⟨_, by rw [rangeV_no H.out]; rfl⟩, bel_one _ _⟩
    · go_enter Tryz.func75, Tryz.ntmps75
      go_wp2
      go_ret
      exact ⟨⟨_, by rw [rangeV_no H.out]; rfl⟩, bel_one _ _⟩
    · go_enter Tryz.func75, Tryz.ntmps75
      go_wp2
      go_ret
      exact ⟨⟨_, by rw [rangeV_no H.out]; rfl⟩, bel_one _ _⟩

end Go.Proofs.YtjclpbaiiklhcaaGreatDoor
