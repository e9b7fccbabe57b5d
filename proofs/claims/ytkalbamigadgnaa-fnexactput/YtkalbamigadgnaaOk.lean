/- DiskOk of the model: whether a disk is right. -/
import Derived.Test.YtkalbamigadgnaaTo
namespace Go.Proofs.Ytkalbamigadgnaa
open Go.RowKit

def okS (s : ByteArray) : Bool := decide (s.size ≤ 256)
def okW (x : Wr) : Bool := decide (0 ≤ x.1 ∧ x.1 ≤ 63 ∧ x.2.size ≤ 256)
def okD (ss : List ByteArray) (ws : List Wr) : Bool := decide (ss.length = 64) && decide (ws.length ≤ 200) && ss.all okS && ws.all okW

theorem okD_len {ss : List ByteArray} {ws : List Wr} (h : ¬ ss.length = 64) : okD ss ws = false := by simp [okD, h]
theorem okD_late {ss : List ByteArray} {ws : List Wr} (h : ¬ ws.length ≤ 200) : okD ss ws = false := by simp [okD, h]

theorem okD_text {ss : List ByteArray} {ws : List Wr} {k : Nat} (hk : k < ss.length) (h : ¬ (ss.getD k ByteArray.empty).size ≤ 256) : okD ss ws = false := by
  have h2 : ss.all okS = false := by
    rw [List.all_eq_false]
    refine ⟨ss[k], List.getElem_mem hk, ?_⟩
    rw [List.getD_eq_getElem?_getD, List.getElem?_eq_getElem hk] at h
    simpa [okS] using h
  simp [okD, h2]

theorem okD_write {ss : List ByteArray} {ws : List Wr} {k : Nat} (hk : k < ws.length) (h : okW (ws.getD k wr0) = false) : okD ss ws = false := by
  have h2 : ws.all okW = false := by
    rw [List.all_eq_false]
    refine ⟨ws[k], List.getElem_mem hk, ?_⟩
    rw [List.getD_eq_getElem?_getD, List.getElem?_eq_getElem hk] at h
    simpa using h
  simp [okD, h2]

theorem okD_yes {ss : List ByteArray} {ws : List Wr} (h1 : ss.length = 64) (h2 : ws.length ≤ 200) (h3 : ∀ k, k < ss.length → (ss.getD k ByteArray.empty).size ≤ 256) (h4 : ∀ k, k < ws.length → okW (ws.getD k wr0) = true) : okD ss ws = true := by
  have e3 : ss.all okS = true := by
    rw [List.all_eq_true]
    intro s hs
    obtain ⟨k, hk, rfl⟩ := List.getElem_of_mem hs
    have := h3 k hk
    rw [List.getD_eq_getElem?_getD, List.getElem?_eq_getElem hk] at this
    simpa [okS] using this
  have e4 : ws.all okW = true := by
    rw [List.all_eq_true]
    intro s hs
    obtain ⟨k, hk, rfl⟩ := List.getElem_of_mem hs
    have := h4 k hk
    rw [List.getD_eq_getElem?_getD, List.getElem?_eq_getElem hk] at this
    simpa using this
  simp [okD, h1, h2, e3, e4]

set_option maxHeartbeats 400000 in
theorem l1In_any (x lo hi : Int) (w : World) :
    Calls Try.prog 46 #[.int .i64 x, .int .i64 lo, .int .i64 hi] w fun e w' => e = .returned (.bool (decide (lo ≤ x ∧ x ≤ hi))) ∧ w' = w := by
  by_cases h : lo ≤ x
  · by_cases h2 : x ≤ hi
    · have g : (decide (lo ≤ x ∧ x ≤ hi)) = true := by simp [h, h2]
      rw [g]
      clear g
      go_enter Try.func46, Try.ntmps46
      go_wp2
      go_ret
      exact ⟨ret_bool rfl, rfl⟩
    · have g : (decide (lo ≤ x ∧ x ≤ hi)) = false := by simp [h2]
      rw [g]
      clear g
      go_enter Try.func46, Try.ntmps46
      go_wp2
      go_ret
      exact ⟨ret_bool rfl, rfl⟩
  · have g : (decide (lo ≤ x ∧ x ≤ hi)) = false := by simp [h]
    rw [g]
    clear g
    go_enter Try.func46, Try.ntmps46
    go_wp2
    go_ret
    exact ⟨ret_bool rfl, rfl⟩

theorem okW_in {a : Int} {s : ByteArray} (h : 0 ≤ a ∧ a ≤ 63) : decide ((s.size : Int) ≤ 256) = okW (a, s) := by
  unfold okW
  by_cases h2 : s.size ≤ 256
  · have : (s.size : Int) ≤ 256 := by omega
    simp [h, h2, this]
  · have : ¬ (s.size : Int) ≤ 256 := by omega
    simp [h2, this]

theorem okW_out {a : Int} {s : ByteArray} (h : ¬ (0 ≤ a ∧ a ≤ 63)) : false = okW (a, s) := by
  unfold okW
  simp
  intro h1 h2
  exact absurd ⟨h1, h2⟩ h

set_option maxHeartbeats 400000 in
theorem l1Write_any (a : Int) (s : ByteArray) (w : World) :
    Calls Try.prog 31 #[.agg #[.int .i64 a, .string s]] w fun e w' => e = .returned (.bool (okW (a, s))) ∧ Below w.heap.size w w' := by
  have hb0 := bel_one w (.cells #[.int .i64 a, .string s] 53)
  go_enter Try.func31, Try.ntmps31
  go_wp2_with (fail)
  refine (l1In_any _ _ _ _).mono ?_
  rintro e w1 ⟨rfl, rfl⟩
  by_cases h : 0 ≤ a ∧ a ≤ 63
  · rw [decide_eq_true h]
    go_wp2
    go_ret
    exact ⟨ret_bool (okW_in h), hb0⟩
  · rw [decide_eq_false h]
    have HH : Hid (¬ (0 ≤ a ∧ a ≤ 63)) := h
    clear h
    go_wp2
    go_ret
    exact ⟨ret_bool (okW_out HH.out), hb0⟩

set_option maxHeartbeats 1000000 in
theorem specDiskOk_any (v1 v2 : Value) (ss : List ByteArray) (ws : List Wr) (w : World) (hv1 : SR w v1 ss) (hv2 : WR w v2 ws) (h1 : ss.length ≤ 10000000000000) (h2 : ws.length ≤ 10000000000000) :
    Calls Try.prog 10 #[.agg #[v1, v2]] w fun e w' => e = .returned (.bool (okD ss ws)) ∧ Below w.heap.size w w' := by
  obtain ⟨ao, cap, rfl, hv⟩ := hv1
  obtain ⟨bo, cbp, rfl, hu⟩ := hv2
  have hb0 := bel_one w (.cells #[.slice ao ss.length cap, .slice bo ws.length cbp] 30)
  by_cases h64 : ss.length = 64
  · have t1 : ((ss.length : Int) != 64) = false := by simp [h64]
    have H64 : Hid (ss.length = 64) := h64
    clear h64
    by_cases h200 : ws.length ≤ 200
    · have t2 : decide ((200 : Int) < (ws.length : Int)) = false := by simp; omega
      go_enter Try.func10, Try.ntmps10
      go_wp2
      go_loopw [3] (fun i wr => ∃ (j : Nat), j ≤ ss.length ∧ i = .int .i64 j ∧ Hid (∀ k, k < j → (ss.getD k ByteArray.empty).size ≤ 256) ∧ Below (w.heap.size + 1) (w.alloc (.cells #[.slice ao ss.length cap, .slice bo ws.length cbp] 30)) wr) (fun i _ => ss.length - (intOf i).toNat)
      case atStart => exact ⟨0, Nat.zero_le _, rfl, fun k hk => absurd hk (by omega), Below.refl _ _⟩
      case round =>
        obtain ⟨j, hj, rfl, hall, hb⟩ := hrel
        have c1 : wr.cell? ⟨w.heap.size, 0, none⟩ = some (.slice ao ss.length cap) := (hb.cell (p := ⟨w.heap.size, 0, none⟩) (by simp)).trans (cell_new w #[.slice ao ss.length cap, .slice bo ws.length cbp] 30 _ rfl 0 _ rfl)
        have c2 : wr.cell? ⟨w.heap.size, 1, none⟩ = some (.slice bo ws.length cbp) := (hb.cell (p := ⟨w.heap.size, 1, none⟩) (by simp)).trans (cell_new w #[.slice ao ss.length cap, .slice bo ws.length cbp] 30 _ rfl 1 _ rfl)
        have hbw : Below w.heap.size w wr := hb0.trans (hb.mono (by omega))
        by_cases hlt : j < ss.length
        · obtain ⟨b, o, rfl, hc⟩ := hv j hlt
          have hc1 := cell_later hbw hc
          generalize hs : ss.getD j ByteArray.empty = s at *
          have HS : Hid (ss.getD j ByteArray.empty = s) := hs
          clear hv hc hs
          by_cases hsz : s.size ≤ 256
          · go_wp2
            go_roundw
            case rel => exact ⟨j + 1, by omega, by go_num, all_upto hall.out (by rw [HS.out]; exact hsz), hb⟩
            case measure => simp [intOf]; omega
          · go_wp2
            go_ret
            exact ⟨ret_bool (okD_text hlt (by rw [HS.out]; exact hsz)).symm, hbw⟩
        · obtain rfl : j = ss.length := by omega
          clear hv
          go_wp2
          go_loopw [4] (fun i wr => ∃ (j : Nat), j ≤ ws.length ∧ i = .int .i64 j ∧ Hid (∀ k, k < j → okW (ws.getD k wr0) = true) ∧ Below (w.heap.size + 1) (w.alloc (.cells #[.slice ao ss.length cap, .slice bo ws.length cbp] 30)) wr) (fun i _ => ws.length - (intOf i).toNat)
          case atStart => exact ⟨0, Nat.zero_le _, rfl, fun k hk => absurd hk (by omega), hb⟩
          case round =>
            clear c1 c2 hb hbw
            obtain ⟨i, hi, rfl, hall2, hb⟩ := hrel
            have c2 : wr.cell? ⟨w.heap.size, 1, none⟩ = some (.slice bo ws.length cbp) := (hb.cell (p := ⟨w.heap.size, 1, none⟩) (by simp)).trans (cell_new w #[.slice ao ss.length cap, .slice bo ws.length cbp] 30 _ rfl 1 _ rfl)
            have hbw : Below w.heap.size w wr := hb0.trans (hb.mono (by omega))
            by_cases hlt : i < ws.length
            · obtain ⟨b, o, rfl, hc, hd⟩ := hu i hlt
              have hc1 := cell_later hbw hc
              have hd1 := cell_later hbw hd
              generalize hs : ws.getD i wr0 = s at *
              have HS : Hid (ws.getD i wr0 = s) := hs
              obtain ⟨s1, s2⟩ := s
              clear hu hc hs hd
              go_wp2_with (fail)
              refine (l1Write_any _ _ _).mono ?_
              rintro e w2 ⟨rfl, hb2⟩
              have hb3 := hb.trans (hb2.mono (Nat.le_trans (by simp) hb.size))
              have hbw3 := bel_then hbw hbw.size hb2
              clear hb hb2 hbw
              cases hok : okW (s1, s2)
              · have HK : Hid (okW (s1, s2) = false) := hok
                clear hok
                go_wp2
                go_ret
                exact ⟨ret_bool (okD_write hlt (by rw [HS.out]; exact HK.out)).symm, hbw3⟩
              · have HK : Hid (okW (s1, s2) = true) := hok
                clear hok
                go_wp2
                go_roundw
                case rel => exact ⟨i + 1, by omega, by go_num, all_upto hall2.out (by rw [HS.out]; exact HK.out), hb3⟩
                case measure => simp [intOf]; omega
            · obtain rfl : i = ws.length := by omega
              clear hu
              go_wp2
              go_ret
              exact ⟨ret_bool (okD_yes H64.out h200 hall.out hall2.out).symm, hbw⟩
    · have t2 : decide ((200 : Int) < (ws.length : Int)) = true := by simp; omega
      go_enter Try.func10, Try.ntmps10
      go_wp2
      go_ret
      exact ⟨ret_bool (okD_late h200).symm, hb0⟩
  · have t1 : ((ss.length : Int) != 64) = true := by simp; omega
    go_enter Try.func10, Try.ntmps10
    go_wp2
    go_ret
    exact ⟨ret_bool (okD_len h64).symm, hb0⟩

end Go.Proofs.Ytkalbamigadgnaa
