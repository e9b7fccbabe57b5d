/- markText answers the one text of its number, and makes memory of its own alone. -/
import Derived.Test.YtkalbamigadgnaaRows
import Derived.Test.YtkalbamigadgnaaPlain
namespace Go.Proofs.Ytkalbamigadgnaa
open Go.RowKit

theorem conv_one (w : World) (c : Int) : (convert 73 9 (.slice (some ⟨w.heap.size, 0, none⟩) 1 1)).run Try.prog (w.alloc (.cells #[.int .u8 c] 5)) = .ok (.string ⟨#[UInt8.ofNat c.toNat]⟩) (w.alloc (.cells #[.int .u8 c] 5)) := by
  have hl := run_loadCells_list (P := Try.prog) (w.alloc (.cells #[.int .u8 c] 5)) ⟨w.heap.size, 0, none⟩ ([c].map (Value.int .u8)) (fun j v hj => by
    match j, hj with
    | 0, hj => simp at hj; subst hj; simp [Addr.add])
  rw [run_convert_bytes_string _ 73 9 5 _ _ _ (by kernel_rfl) (by kernel_rfl) (by kernel_rfl), run_bytesToString _ _ 1 1 [c] hl]
  rfl

set_option maxHeartbeats 400000 in
theorem markText_any (k : Int) (w : World) (h0 : 0 < k) (h1 : k ≤ 1000000000000000) :
    Calls Try.prog 52 #[.int .i64 k] w fun e w' => e = .returned (.string (mtext k)) ∧ Below w.heap.size w w' := by
  have hcv := conv_one
  go_enter Try.func52, Try.ntmps52
  go_wp2
  go_loopw [0, 3] (fun a o wr => ∃ (n f : Nat) (s : ByteArray), a = .int .i64 n ∧ o = .string s ∧ n ≤ f ∧ s.size + n ≤ k.toNat ∧ Hid (digs f n s.data.toList = digs k.toNat k.toNat []) ∧ Below w.heap.size w wr) (fun a _ _ => (intOf a).toNat)
  case atStart =>
    exact ⟨k.toNat, k.toNat, _, by rw [Int.toNat_of_nonneg (by omega)], rfl, Nat.le_refl _, by show 0 + k.toNat ≤ k.toNat; omega, rfl, Below.refl _ _⟩
  case round =>
    obtain ⟨n, f, s, rfl, rfl, hf, hs, hd, hb⟩ := hrel
    by_cases hn : 0 < n
    · have HD : Hid (digs (f - 1) (n / 10) (({ data := #[48 + UInt8.ofNat (n % 10)] } ++ s : ByteArray).data.toList) = digs k.toNat k.toNat []) := (digs_step f n s hn hf).trans hd.out
      go_wp2
      go_roundw
      case rel => exact ⟨n / 10, f - 1, _, by go_num, rfl, by omega, by rw [ByteArray.size_append]; show 1 + s.size + n / 10 ≤ _; omega, HD, hb.alloc hb.size _⟩
      case measure => simp [intOf]; omega
    · go_wp2
      go_ret
      exact ⟨ret_str (digs_end k f n s h0 hn hd.out), hb⟩
end Go.Proofs.Ytkalbamigadgnaa
