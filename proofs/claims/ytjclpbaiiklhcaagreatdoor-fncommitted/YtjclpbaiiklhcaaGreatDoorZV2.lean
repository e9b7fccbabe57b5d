import Derived.Test.YtjclpbaiiklhcaaGreatDoorZV1
import Derived.Test.YtjclpbaiiklhcaaGreatDoorZV0
import Derived.Deep.RegionHeld3
/- The program's own sum of a text. -/
namespace Go.Proofs.YtjclpbaiiklhcaaGreatDoor
open Go.RowKit

set_option maxRecDepth 100000 in
set_option maxHeartbeats 1000000 in
theorem byteSum_any (b : Nat) (w : World) (hb : b < 256) :
    Calls Tryz.prog 93 #[.int .u8 b] w fun e w' => e = .returned (.int .u32 (crcBits 8 b : Nat)) ∧ w' = w := by
  go_enter Tryz.func93, Tryz.ntmps93
  go_wp2
  go_loopw [3, 7] (fun d j wr' => ∃ m : Nat, m ≤ 8 ∧ j = .int .i64 m ∧ d = .int .u32 (crcBits m b : Nat) ∧ wr' = w) (fun _ j _ => 8 - (intOf j).toNat)
  case atStart => exact ⟨0, Nat.zero_le _, rfl, rfl, rfl⟩
  case round =>
    obtain ⟨m, hm, rfl, rfl, rfl⟩ := hrel
    by_cases hm8 : m < 8
    · have hd := crcBits_lt (show b < 4294967296 by omega) m
      have H2 : Hid (crcBits (m + 1) b = crcBit (crcBits m b)) := (rfl : crcBits (m + 1) b = crcBit (crcBits m b))
      generalize crcBits m b = d at *
      have t1 := tmod2 d
      have t2 := tdiv2 d
      by_cases hodd : d % 2 = 1
      · go_wp2
        refine ⟨⟨m + 1, by omega, by go_num, ?_, trivial⟩, by simp [intOf]; omega⟩
        have h := xor32 (d / 2) 3988292384 (by omega) (by omega)
        have e : ((d / 2 : Nat) : Int) = (d : Int) / 2 := by omega
        rw [e] at h
        rw [H2.out, crcBit, if_pos hodd, ← h]
        rfl
      · go_wp2
        refine ⟨⟨m + 1, by omega, by go_num, ?_, trivial⟩, by simp [intOf]; omega⟩
        have e : ((d / 2 : Nat) : Int) = (d : Int) / 2 := by omega
        rw [H2.out, crcBit, if_neg hodd, e]
    · obtain rfl : m = 8 := by omega
      go_wp2
      go_ret
      exact ⟨rfl, rfl⟩
set_option maxRecDepth 100000 in
set_option maxHeartbeats 1000000 in
theorem sumOf_any (s : ByteArray) (w : World) (hs : s.size ≤ 1000000000000) :
    Calls Tryz.prog 81 #[.string s] w fun e w' => e = .returned (.int .i64 (crcS s)) ∧ w' = w := by
  go_enter Tryz.func81, Tryz.ntmps81
  go_wp2
  go_loopw [3, 7] (fun c i wr => ∃ k : Nat, k ≤ s.size ∧ i = .int .i64 k ∧ c = .int .u32 (crcL (s.data.toList.take k) : Nat) ∧ wr = w) (fun _ i _ => s.size - (intOf i).toNat)
  case atStart => exact ⟨0, Nat.zero_le _, rfl, rfl, rfl⟩
  case round =>
    obtain ⟨k, hk, rfl, rfl, rfl⟩ := hrel
    by_cases hlt : k < s.size
    · have hc := crcL_lt (s.data.toList.take k)
      generalize hcc : crcL (s.data.toList.take k) = c at *
      have hb : s[k].toNat < 256 := s[k].toNat_lt
      have hx8 : bits .xor .u8 ((c : Int) % 256) (s[k].toNat : Int) = ((c % 256 ^^^ s[k].toNat : Nat) : Int) := xor8 (c % 256) s[k].toNat (by omega) hb
      have hd : c % 256 ^^^ s[k].toNat < 256 := Nat.xor_lt_two_pow (n := 8) (by omega) (by omega)
      have H1 : Hid (crcL (s.data.toList.take (k + 1)) = crcBits 8 (c % 256 ^^^ s[k].toNat) ^^^ (c / 256)) := (by
        rw [crcL_succ _ k (by simpa using hlt), hcc]
        exact crcByte_table c s[k] : crcL (s.data.toList.take (k + 1)) = crcBits 8 (c % 256 ^^^ s[k].toNat) ^^^ (c / 256))
      clear hcc
      generalize c % 256 ^^^ s[k].toNat = y at *
      have hy := crcBits_lt (show y < 4294967296 by omega) 8
      have hx32 := xor32 (crcBits 8 y) (c / 256) hy (by omega)
      go_wp2_with (go_at_call 93; refine (byteSum_any y _ hd).mono ?_; rintro e w' ⟨rfl, rfl⟩)
      refine ⟨⟨k + 1, by omega, by go_num, ?_, trivial⟩, by simp [intOf]; omega⟩
      have e : ((c / 256 : Nat) : Int) = (c : Int) / 256 := by omega
      rw [H1.out, ← hx32, e]
    · obtain rfl : k = s.size := by omega
      go_wp2
      go_ret
      refine ⟨congrArg (fun z => Ending.returned (.int .i64 z)) ?_, rfl⟩
      have e : s.data.toList.take s.size = s.data.toList := List.take_of_length_le (by rw [Array.length_toList]; exact Nat.le_refl _)
      have h := crcL_lt s.data.toList
      rw [e]
      unfold crcS
      omega

end Go.Proofs.YtjclpbaiiklhcaaGreatDoor

/- pageHead of the program. -/
namespace Go.Proofs.YtjclpbaiiklhcaaGreatDoor
open Go.RowKit

theorem cell_later {w w' : World} {b o : Nat} {v : Value} (hb : Below w.heap.size w w') (h : w.cell? ⟨b, o, none⟩ = some v) : w'.cell? ⟨b, o, none⟩ = some v := by
  have hlt : b < w.heap.size := by
    rcases Nat.lt_or_ge b w.heap.size with h' | h'
    · exact h'
    · simp [World.cell?, Array.getElem?_eq_none h'] at h
  rw [hb.cell (p := ⟨b, o, none⟩) hlt]
  exact h
theorem bel_one (w : World) (o : Obj) : Below w.heap.size w (w.alloc o) := (Below.refl _ _).alloc (Nat.le_refl _) _
/-- Two cells of a box, whatever came later. -/
theorem keep2 {W a b : World} {N i j : Nat} {u v : Value} (k : Below a.heap.size a b) (h : Below W.heap.size W a ∧ a.cell? ⟨N, i, none⟩ = some u ∧ a.cell? ⟨N, j, none⟩ = some v) :
    Below W.heap.size W b ∧ b.cell? ⟨N, i, none⟩ = some u ∧ b.cell? ⟨N, j, none⟩ = some v :=
  ⟨bel_after h.1 k, cell_later k h.2.1, cell_later k h.2.2⟩
theorem keep4 {W a b : World} {N : Nat} {u v x y : Value} (k : Below a.heap.size a b) (h : Below W.heap.size W a ∧ a.cell? ⟨N, 0, none⟩ = some u ∧ a.cell? ⟨N, 1, none⟩ = some v ∧ a.cell? ⟨N, 2, none⟩ = some x ∧ a.cell? ⟨N, 3, none⟩ = some y) :
    Below W.heap.size W b ∧ b.cell? ⟨N, 0, none⟩ = some u ∧ b.cell? ⟨N, 1, none⟩ = some v ∧ b.cell? ⟨N, 2, none⟩ = some x ∧ b.cell? ⟨N, 3, none⟩ = some y :=
  ⟨bel_after h.1 k, cell_later k h.2.1, cell_later k h.2.2.1, cell_later k h.2.2.2.1, cell_later k h.2.2.2.2⟩
theorem Tb.held {W w : World} {q : Prop} (h : Tb W) (hb : Below W.heap.size W w ∧ q) : Tb w := h.later hb.1

/-- A page as the program holds it. -/
def pageV (n e s : Int) (b : ByteArray) : Value := .agg #[.int .i64 n, .int .i64 e, .int .i64 s, .string b]

set_option maxRecDepth 100000 in
set_option maxHeartbeats 3200000 in
theorem pageHead_any (n e s : Int) (b : ByteArray) (w : World) (h0 : -9223372036854775808 ≤ n) (h1 : n ≤ 9223372036854775807) (k0 : -9223372036854775808 ≤ e) (k1 : e ≤ 9223372036854775807) (ht : Tb w) :
    Calls Tryz.prog 76 #[pageV n e s b] w fun x w' => x = .returned (.string (headS n e)) ∧ Below w.heap.size w w' := by
  have s1 := itoaB_size h0 h1
  have s2 := itoaB_size k0 k1
  have ht1 : Tb (w.alloc (.cells #[.int .i64 n, .int .i64 e, .int .i64 s, .string b] 104)) := ht.later (bel_one _ _)
  have g1 : ¬ 9223372036854775807 < (itoaB n).size + 1 := by omega
  have g2 : ¬ 9223372036854775807 < (itoaB n).size + 1 + (itoaB e).size := by omega
  have g3 : ¬ 9223372036854775807 < (itoaB n).size + 1 + (itoaB e).size + 1 := by omega
  unfold pageV
  go_enter Tryz.func76, Tryz.ntmps76
  go_wp2_with fail
  go_region_held3 (fun w' => Below (w.alloc (.cells #[.int .i64 n, .int .i64 e, .int .i64 s, .string b] 104)).heap.size (w.alloc (.cells #[.int .i64 n, .int .i64 e, .int .i64 s, .string b] 104)) w' ∧ w'.cell? ⟨w.heap.size, 0, none⟩ = some (.int .i64 n) ∧ w'.cell? ⟨w.heap.size, 1, none⟩ = some (.int .i64 e))
    (first | assumption | (refine ⟨(Below.refl _ _).drew, ?_, ?_⟩ <;> simp) | (exact keep2 (by assumption) (by assumption)) | (go_keep; done))
    (first
      | (go_at_call 77; refine (fmt_any _ _ (by assumption) (by assumption) ?_).mono ?_; (focus (exact ht1.held (by assumption))); rintro x w2 ⟨rfl, hb2⟩))
  all_goals
    go_wp2
    go_ret
    exact ⟨rfl, bel_after (bel_one _ _) (And.left (by assumption))⟩

theorem pageSum_size {n e : Int} {b : ByteArray} (h0 : -9223372036854775808 ≤ n) (h1 : n ≤ 9223372036854775807) (k0 : -9223372036854775808 ≤ e) (k1 : e ≤ 9223372036854775807) : (headS n e ++ b).size ≤ 42 + b.size := by
  have := headS_size h0 h1 k0 k1
  rw [ByteArray.size_append]
  omega

set_option maxRecDepth 100000 in
set_option maxHeartbeats 3200000 in
theorem pageSum_any (n e s : Int) (b : ByteArray) (w : World) (h0 : -9223372036854775808 ≤ n) (h1 : n ≤ 9223372036854775807) (k0 : -9223372036854775808 ≤ e) (k1 : e ≤ 9223372036854775807) (hb : b.size ≤ 100000000000) (ht : Tb w) :
    Calls Tryz.prog 78 #[pageV n e s b] w fun x w' => x = .returned (.int .i64 (crcS (headS n e ++ b))) ∧ Below w.heap.size w w' := by
  have s1 := headS_size h0 h1 k0 k1
  have ht1 : Tb (w.alloc (.cells #[.int .i64 n, .int .i64 e, .int .i64 s, .string b] 104)) := ht.later (bel_one _ _)
  have g1 : ¬ 9223372036854775807 < (headS n e).size + b.size := by omega
  have g2 : (headS n e ++ b).size ≤ 1000000000000 := by rw [ByteArray.size_append]; omega
  unfold pageV
  go_enter Tryz.func78, Tryz.ntmps78
  go_wp2_with fail
  go_region_held3 (fun w' => Below (w.alloc (.cells #[.int .i64 n, .int .i64 e, .int .i64 s, .string b] 104)).heap.size (w.alloc (.cells #[.int .i64 n, .int .i64 e, .int .i64 s, .string b] 104)) w' ∧ w'.cell? ⟨w.heap.size, 0, none⟩ = some (.int .i64 n) ∧ w'.cell? ⟨w.heap.size, 1, none⟩ = some (.int .i64 e) ∧ w'.cell? ⟨w.heap.size, 2, none⟩ = some (.int .i64 s) ∧ w'.cell? ⟨w.heap.size, 3, none⟩ = some (.string b))
    (first | assumption | (refine ⟨(Below.refl _ _).drew, ?_, ?_, ?_, ?_⟩ <;> simp) | (exact keep4 (by assumption) (by assumption)))
    (first
      | (go_at_call 76; refine (pageHead_any _ _ _ _ _ h0 h1 k0 k1 ?_).mono ?_; (focus (exact ht1.held (by assumption))); rintro x w2 ⟨rfl, hb2⟩)
      | (go_at_call 81; refine (sumOf_any _ _ g2).mono ?_; rintro x w3 ⟨rfl, rfl⟩))
  all_goals
    go_wp2
    go_ret
    exact ⟨rfl, bel_after (bel_one _ _) (And.left (by assumption))⟩

end Go.Proofs.YtjclpbaiiklhcaaGreatDoor
