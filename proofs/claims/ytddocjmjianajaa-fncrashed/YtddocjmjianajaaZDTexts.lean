/- copyTexts of the program: texts copied one by one into a new row. -/
import Derived.Test.YtddocjmjianajaaZMD
import Derived.Test.YtddocjmjianajaaZDHold
namespace Go.Proofs.Ytddocjmjianajaa.Disk
open Go.RowKit Go.Deep

theorem make0_22 (n : Nat) (hn : n ≤ 10000000000000) (w : World) : (Instr.makeSlice 24 (.int .i64 0) (.int .i64 (n : Int))).run Try.prog w = .ok (.slice (some ⟨w.heap.size, 0, none⟩) 0 n) (w.alloc (.cells (madeCells #[.string ⟨#[]⟩] n) 9)) := by
  obtain ⟨i, hi, hzz⟩ := Option.map_eq_some_iff.1 Try.info9
  simp only [Prod.mk.injEq] at hzz
  obtain ⟨hz, hs, hb⟩ := hzz
  have hr := run_make (P := Try.prog) w 24 9 i _ Try.under22 hi hz .i64 .i64 0 n (by omega) (by omega) (by rw [hb]; omega) (by omega)
  rw [hs, Int.toNat_natCast, Nat.mul_one] at hr
  exact hr

theorem own_made (w : World) (e size n : Nat) (C : Array Value) (hC : C.size = n * size) (hn : n ≤ maxLen) : (w.alloc (.cells C e)).ownsRow w.heap.size e size (.slice (some ⟨w.heap.size, 0, none⟩) 0 n) 0 [] :=
  ⟨by simp, .inr ⟨w.heap.size, n, C, rfl, Nat.le_refl _, heap_alloc_new w _, by omega, hn, hC, by simp⟩⟩

theorem owned_row {w : World} {B e size n : Nat} {b cap : Nat} {xs : List Value} (g : Nat → Value) (h : w.ownsRow B e size (.slice (some ⟨b, 0, none⟩) n cap) n xs) (hg : ∀ i, i < xs.length → xs[i]? = some (g i)) :
    ∃ (N : Nat) (f : Nat → Value), w.rowIs b e N (fun i => if i < n * size then g i else f i) ∧ n * size ≤ N ∧ B ≤ b := by
  obtain ⟨hl, h⟩ := h
  rcases h with ⟨h, _⟩ | ⟨b', cap', cur, hv, hB, hh, hnc, _, hsz, htk⟩
  · simp at h
  · simp only [Value.slice.injEq, Option.some.injEq, Addr.mk.injEq, and_true] at hv
    obtain ⟨rfl, _, rfl⟩ := hv
    have hle : n * size ≤ cur.size := by rw [hsz]; exact Nat.mul_le_mul_right _ hnc
    refine ⟨cur.size, fun i => cur[i]?.getD undef, ⟨cur, hh, rfl, fun i hi => ?_⟩, hle, hB⟩
    show cur[i]? = some (if i < n * size then g i else cur[i]?.getD undef)
    by_cases hin : i < n * size
    · rw [if_pos hin]
      have hx := hg i (by omega)
      rw [← htk, List.getElem?_take_of_lt hin] at hx
      simpa using hx
    · rw [if_neg hin]
      simp [hi]

theorem ns_owns {w : World} {B b cap : Nat} {ss : List ByteArray} (h : w.ownsRow B 9 1 (.slice (some ⟨b, 0, none⟩) ss.length cap) ss.length (scells ss)) : NS B w (.slice (some ⟨b, 0, none⟩) ss.length cap) ss := by
  obtain ⟨N, f, hr, hN, hB⟩ := owned_row (scell ss) h (fun i hi => by rw [scells_length, Nat.mul_one] at hi; exact scells_get ss i hi)
  rw [Nat.mul_one] at hr hN
  exact ns_row hr hN hB

theorem nw_owns {w : World} {B b cap : Nat} {ws : List Wr} (h : w.ownsRow B 42 2 (.slice (some ⟨b, 0, none⟩) ws.length cap) ws.length (lcells ws)) : NW B w (.slice (some ⟨b, 0, none⟩) ws.length cap) ws := by
  obtain ⟨N, f, hr, hN, hB⟩ := owned_row (lcell ws) h (fun i hi => by rw [lcells_length] at hi; exact lcells_get ws i hi)
  exact nw_row hr hN hB

theorem scells_take_succ (ss : List ByteArray) (j : Nat) (h : j < ss.length) : scells (ss.take (j + 1)) = scells (ss.take j) ++ [.string (ss.getD j ByteArray.empty)] := by
  unfold scells
  rw [List.take_succ_eq_append_getElem h, List.map_append]
  congr 1
  simp [h]

set_option maxRecDepth 100000 in
set_option maxHeartbeats 1000000 in
theorem copyTexts_any (v : Value) (ss : List ByteArray) (w : World) (hv : SR w v ss) (hl : ss.length ≤ 10000000000000) (hsz : ∀ k, k < ss.length → (ss.getD k ByteArray.empty).size ≤ 256) :
    Calls Try.prog 26 #[v] w fun e w' => ∃ v', e = .returned v' ∧ NS w.heap.size w' v' ss ∧ Below w.heap.size w w' := by
  obtain ⟨ao, cap, rfl, hv⟩ := hv
  have hmk := make0_22 ss.length hl
  have HZ : Hid (∀ k, k < ss.length → (ss.getD k ByteArray.empty).size ≤ 256) := hsz
  have ho := own_made w 9 1 ss.length (madeCells #[.string ⟨#[]⟩] ss.length) (by rw [size_madeCells]; omega) (by unfold maxLen; omega)
  have HML : Hid (ss.length ≤ maxLen) := (by unfold maxLen; omega : ss.length ≤ maxLen)
  obtain ⟨i0, hi, hzz⟩ := Option.map_eq_some_iff.1 Try.info9
  simp only [Prod.mk.injEq] at hzz
  obtain ⟨_, hs1, _⟩ := hzz
  have HS1 : Hid (i0.size = 1) := hs1
  have HI : Hid (Try.prog.info? 9 = some i0) := hi
  clear hsz hs1 hi
  go_enter Try.func26, Try.ntmps26
  go_wp2
  go_loopw [3, 11] (fun out i wr => ∃ (j : Nat), j ≤ ss.length ∧ i = .int .i64 j ∧ out = .slice (some ⟨w.heap.size, 0, none⟩) j ss.length ∧ wr.ownsRow w.heap.size 9 1 (.slice (some ⟨w.heap.size, 0, none⟩) j ss.length) j (scells (ss.take j)) ∧ Below w.heap.size w wr) (fun _ i _ => ss.length - (intOf i).toNat)
  case atStart => exact ⟨0, Nat.zero_le _, rfl, rfl, ho, bel_one _ _⟩
  case round =>
    obtain ⟨j, hj, rfl, rfl, hown, hb⟩ := hrel
    by_cases hlt : j < ss.length
    · obtain ⟨b, o, rfl, hc⟩ := hv j hlt
      have hc1 := cell_later hb hc
      have hz := HZ.out j hlt
      have hsucc := scells_take_succ ss j hlt
      generalize ss.getD j ByteArray.empty = s at *
      have HS : Hid (scells (ss.take (j + 1)) = scells (ss.take j) ++ [.string s]) := hsucc
      clear hv hc hsucc hmk ho
      go_wp2_with (fail)
      refine (copyText_any s _ (by omega)).mono ?_
      rintro e w2 ⟨rfl, hb2⟩
      have hb3 := bel_then hb hb.size hb2
      have hown2 := hown.kept (grown_below (row := none) hb2) (.inr (by simp [Value.ownBlock]))
      have hown3 := hown2.alloc (.cells #[.string s] 9)
      clear hown hown2 hb
      go_wp2_with (first | (at_builtin; refine wpList_append_fits _ rfl _ _ 24 rfl w.heap.size 9 i0 1 Try.under22 HI.out HS1.out w.heap.size j ss.length _ rfl hown3 ⟨w2.heap.size, 0, none⟩ 1 1 [.string s] rfl rfl (cell_one_new _ _ _) (by simp [Value.oneCell']) (by omega) ?_; intro w4 hown4 hg4))
      have hb4 : Below w.heap.size w w4 := (hb3.alloc hb3.size _).grown hg4 (Nat.le_trans hb3.size (by simp)) (fun k e => by cases e; exact Nat.le_refl _)
      rw [← HS.out] at hown4
      go_roundw
      case rel => exact ⟨j + 1, by omega, by go_num, rfl, hown4, hb4⟩
      case measure => simp [intOf]; omega
    · obtain rfl : j = ss.length := by omega
      go_wp2
      go_ret
      rw [List.take_length] at hown
      exact ⟨_, rfl, ns_owns hown, hb⟩

end Go.Proofs.Ytddocjmjianajaa.Disk
