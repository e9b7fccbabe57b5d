/- numberAhead and splitPage of the program. -/
import Derived.Test.YtfcenohgfhefiaaGreatDoorReadI
namespace Go.Proofs.YtfcenohgfhefiaaGreatDoor
open Go.RowKit

theorem bytesOf_list (l : List UInt8) : (bytesOf l).data.toList = l := by unfold bytesOf; simp

set_option maxRecDepth 100000 in
set_option maxHeartbeats 1000000 in
theorem ahead_no (s : ByteArray) (d : Nat) (w : World) (hs : s.size < 4294967281) (hd : d ≤ 17) (hE : Env w) (h : cutN s.data.toList d = none) :
    Calls Tryz.prog 122 #[.string s, .int .i64 d] w fun e w' => (∃ z r, e = .returned (.tuple #[.int .i64 z, .string r, .bool false])) ∧ Below w.heap.size w w' := by
  have C := cut_any s w hs hE
  unfold cutN at h
  cases hf : s.data.toList.findIdx? (· == 59) with
  | none =>
    rw [hf] at C
    clear h hf
    go_enter Tryz.func122, Tryz.ntmps122
    go_wp2_with (go_at_call 130; refine C.mono ?_; rintro x w1 ⟨rfl, hb1⟩)
    exact bodyPost_ret (v := .tuple #[.int .i64 0, .string ⟨#[]⟩, .bool false]) (by simp [results, Tryz.results122, go_sem]) rfl ⟨⟨_, _, rfl⟩, hb1⟩
  | some i =>
    rw [hf] at C h
    simp only at C h
    have hi : Hid (numIs (bytesOf (s.data.toList.take i)) d = false) := (by
      split at h
      · simp at h
      · rename_i hn
        exact Bool.eq_false_iff.2 hn : numIs (bytesOf (s.data.toList.take i)) d = false)
    have hsz : (bytesOf (s.data.toList.take i)).size ≤ 1000000000000 := by
      rw [bytesOf_size, List.length_take, Array.length_toList]
      have : s.data.size = s.size := rfl
      omega
    clear h hf
    generalize bytesOf (s.data.toList.take i) = x1 at *
    generalize bytesOf (s.data.toList.drop (i + 1)) = x2 at *
    go_enter Tryz.func122, Tryz.ntmps122
    go_wp2_with fail
    refine C.mono ?_
    rintro x w1 ⟨rfl, hb1⟩
    go_wp2_with fail
    refine (readNumber_any x1 d _ hsz hd (hE.later hb1)).mono ?_
    rintro x w2 ⟨rfl, hb2⟩
    rw [hi.out]
    go_wp2
    exact bodyPost_ret (v := .tuple #[.int .i64 (numV x1 d), .string x2, .bool false]) (by simp [results, Tryz.results122, go_sem]) rfl ⟨⟨_, _, rfl⟩, bel_after hb1 hb2⟩

set_option maxRecDepth 100000 in
set_option maxHeartbeats 1000000 in
theorem ahead_yes (s : ByteArray) (d : Nat) (n : Int) (r : List UInt8) (w : World) (hs : s.size < 4294967281) (hd : d ≤ 17) (hE : Env w) (h : cutN s.data.toList d = some (n, r)) :
    Calls Tryz.prog 122 #[.string s, .int .i64 d] w fun e w' => e = .returned (.tuple #[.int .i64 n, .string (bytesOf r), .bool true]) ∧ Below w.heap.size w w' := by
  have C := cut_any s w hs hE
  unfold cutN at h
  cases hf : s.data.toList.findIdx? (· == 59) with
  | none => rw [hf] at h; simp at h
  | some i =>
    rw [hf] at C h
    simp only at C h
    split at h
    · rename_i hn
      simp only [Option.some.injEq, Prod.mk.injEq] at h
      obtain ⟨h1, h2⟩ := h
      have hi : Hid (numIs (bytesOf (s.data.toList.take i)) d = true) := hn
      have hv : Hid (numV (bytesOf (s.data.toList.take i)) d = n) := h1
      have hsz : (bytesOf (s.data.toList.take i)).size ≤ 1000000000000 := by
        rw [bytesOf_size, List.length_take, Array.length_toList]
        have : s.data.size = s.size := rfl
        omega
      rw [h2] at C
      clear h1 h2 hf hn
      generalize bytesOf (s.data.toList.take i) = x1 at *
      generalize bytesOf r = x2 at *
      go_enter Tryz.func122, Tryz.ntmps122
      go_wp2_with fail
      refine C.mono ?_
      rintro x w1 ⟨rfl, hb1⟩
      go_wp2_with fail
      refine (readNumber_any x1 d _ hsz hd (hE.later hb1)).mono ?_
      rintro x w2 ⟨rfl, hb2⟩
      rw [hi.out, hv.out]
      go_wp2
      exact bodyPost_ret (v := .tuple #[.int .i64 n, .string x2, .bool true]) (by simp [results, Tryz.results122, go_sem]) rfl ⟨rfl, bel_after hb1 hb2⟩
    · simp at h

end Go.Proofs.YtfcenohgfhefiaaGreatDoor
