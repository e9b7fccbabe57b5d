/- DiskOk of the program: whether a disk is right. -/
import Derived.Test.YtkalbamigadgnaaIter
namespace Go.Proofs.Ytkalbamigadgnaa
open Go.RowKit Go.Shelf

attribute [local go_sem] Oper.semAt_some

set_option maxHeartbeats 400000 in
theorem fitsSector_any (s : ByteArray) (w : World) : Calls Try.prog 34 #[.string s] w fun e w' => e = .returned (.bool (okS s)) ∧ w' = w := by
  go_enter Try.func34, Try.ntmps34
  go_wp2
  go_ret
  exact ⟨ret_bool (by
    unfold okS
    by_cases h : s.size ≤ 256
    · have : (s.size : Int) ≤ 256 := by omega
      simp [h, this]
    · have : ¬ (s.size : Int) ≤ 256 := by omega
      simp [h, this]), rfl⟩

def okN (a : Int) : Bool := decide (0 ≤ a ∧ a ≤ 63)

theorem okN_in {a : Int} (h : 0 ≤ a) : decide (a < 64) = okN a := by
  unfold okN
  by_cases h2 : a < 64
  · rw [decide_eq_true h2, decide_eq_true (p := 0 ≤ a ∧ a ≤ 63) ⟨h, by omega⟩]
  · rw [decide_eq_false h2, decide_eq_false (p := 0 ≤ a ∧ a ≤ 63) (by omega)]

theorem okN_out {a : Int} (h : ¬ 0 ≤ a) : false = okN a := by
  unfold okN
  rw [decide_eq_false (p := 0 ≤ a ∧ a ≤ 63) (by omega)]

set_option maxHeartbeats 400000 in
theorem isSector_any (a : Int) (w : World) : Calls Try.prog 36 #[.int .i64 a] w fun e w' => e = .returned (.bool (okN a)) ∧ w' = w := by
  by_cases h : 0 ≤ a
  · go_enter Try.func36, Try.ntmps36
    go_wp2
    go_ret
    exact ⟨ret_bool (okN_in h), rfl⟩
  · go_enter Try.func36, Try.ntmps36
    go_wp2
    go_ret
    exact ⟨ret_bool (okN_out (by omega)), rfl⟩

theorem okW_split (a : Int) (s : ByteArray) : okW (a, s) = (okN a && okS s) := by
  unfold okW okN okS
  by_cases h : 0 ≤ a ∧ a ≤ 63
  · by_cases h2 : s.size ≤ 256
    · simp [h, h2]
    · simp [h2]
  · rw [decide_eq_false (p := 0 ≤ a ∧ a ≤ 63) h]
    simp
    intro h1 h2
    exact absurd ⟨h1, h2⟩ h

theorem num_all {ws : List Wr} {n : Nat} (h : ∀ x ∈ num ws n, okW x.2 = true) : ∀ k, k < n → okW (ws.getD k wr0) = true := fun k hk =>
  h (k, ws.getD k wr0) (List.mem_map.2 ⟨k, List.mem_range.2 hk, rfl⟩)

theorem num_bad {ss : List ByteArray} {ws : List Wr} {pre : List NW1} (h : ∃ k, k ≤ ws.length ∧ pre = num ws k) (hx : ∃ x ∈ pre, okW x.2 = false) : okD ss ws = false := by
  obtain ⟨k, hk, rfl⟩ := h
  obtain ⟨x, hx, hf⟩ := hx
  obtain ⟨i, hi, rfl⟩ := List.mem_map.1 hx
  exact okD_write (k := i) (by have := List.mem_range.1 hi; omega) hf

theorem cells_own {X Y : World} {B : Nat} {c : Array Value} {t : TypeId} {row : Option Nat} (h : X.heap[B]? = some (.cells c t (0, 0))) (hg : X.grownBy Y row) (hr : ∀ r, row = some r → ∃ o : Obj, X.heap[r]? = some o ∧ o.isCells = false) : Y.heap[B]? = some (.cells c t (0, 0)) := by
  refine (hg.block B (Array.getElem?_eq_some_iff.1 h).1 (fun e => ?_)).trans h
  obtain ⟨o, ho, hc⟩ := hr B e.symm
  rw [h] at ho
  cases ho
  simp [Obj.isCells] at hc

set_option maxRecDepth 100000 in
set_option maxHeartbeats 2000000 in
theorem implDiskOk_any (v1 v2 : Value) (ss : List ByteArray) (ws : List Wr) (w : World) (hv1 : SR w v1 ss) (hv2 : WR w v2 ws) (h1 : ss.length ≤ 10000000000000) (h2 : ws.length ≤ 10000000000000) :
    Calls Try.prog 12 #[.agg #[v1, v2]] w fun e w' => e = .returned (.bool (okD ss ws)) ∧ Below w.heap.size w w' := by
  have hv2' := hv2
  obtain ⟨ao, cap, rfl, hv⟩ := hv1
  obtain ⟨bo, cbp, rfl, hu⟩ := hv2
  have hb0 := bel_two w (.cells #[.slice ao ss.length cap, .slice bo ws.length cbp] 30) (.cells #[.bool false] 4)
  by_cases h64 : ss.length = 64
  · have t1 : ((ss.length : Int) != 64) = false := by simp [h64]
    have H64 : Hid (ss.length = 64) := h64
    clear h64
    by_cases h200 : ws.length ≤ 200
    · have t2 : decide ((200 : Int) < (ws.length : Int)) = false := by simp; omega
      refine (callsIn_wide (n := 9)).1 ?_
      refine callsIn_of_wp_marks Try.func12 rfl trivial ?_ rfl
      simp only [Try.ntmps12, List.size_toArray, List.length_cons, List.length_nil, Nat.reduceAdd, Nat.reduceSub, Array.replicate_succ, Array.replicate_zero, List.push_toArray, List.append_toArray, List.nil_append, List.cons_append]
      gi_wp2
      gi_loopw [20] (fun i wr => ∃ (j : Nat), j ≤ ss.length ∧ i = .int .i64 j ∧ Hid (∀ k, k < j → (ss.getD k ByteArray.empty).size ≤ 256) ∧ wr = (w.alloc (.cells #[.slice ao ss.length cap, .slice bo ws.length cbp] 30)).alloc (.cells #[.bool false] 4)) (fun i _ => ss.length - (intOf i).toNat)
      case atStart => exact ⟨0, Nat.zero_le _, rfl, fun k hk => absurd hk (by omega), rfl⟩
      case round =>
        obtain ⟨j, hj, rfl, hall, rfl⟩ := hrel
        by_cases hlt : j < ss.length
        · obtain ⟨b, o, rfl, hc⟩ := hv j hlt
          have hc1 := cell_later hb0 hc
          generalize hs : ss.getD j ByteArray.empty = s at *
          have HS : Hid (ss.getD j ByteArray.empty = s) := hs
          clear hv hc hs hu
          gi_wp2_with (fail)
          refine ⟨trivial, (callsIn_wide.2 (fitsSector_any _ _)).mono ?_⟩
          rintro e w' ⟨rfl, rfl⟩
          cases hok : okS s
          · have HK : Hid (okS s = false) := hok
            clear hok
            gi_wp2
            exact ⟨.bool false, by simp [results, Try.f12, go_sem], ret_bool (okD_text hlt (by rw [HS.out]; have := HK.out; simpa [okS] using this)).symm, hb0⟩
          · have HK : Hid (okS s = true) := hok
            clear hok
            gi_wp2
            go_roundw
            case rel => exact ⟨j + 1, by omega, by simp, all_upto hall.out (by rw [HS.out]; have := HK.out; simpa [okS] using this), by trivial⟩
            case measure => simp [intOf]; omega
        · obtain rfl : j = ss.length := by omega
          clear hv hu
          gi_wp2_with (fail)
          refine ⟨trivial, (inOrder_in Fence.wide _ trivial rfl _ _ _ _).mono ?_⟩
          rintro e w' ⟨rfl, rfl⟩
          gi_wp2_with (fail)
          obtain ⟨W0, hW0⟩ : ∃ W0, ((w.alloc (.cells #[.slice ao ss.length cap, .slice bo ws.length cbp] 30)).alloc (.cells #[.bool false] 4)).alloc (.cells #[.slice bo ws.length cbp] 28) = W0 := ⟨_, rfl⟩
          have hB0 : Below w.heap.size w W0 := by rw [← hW0]; exact hb0.alloc (by simp; omega) _
          have bR : Boxed W0 (w.heap.size + 1) 4 (.bool false) := by
            rw [← hW0]
            have h := (Boxed.new (w.alloc (.cells #[.slice ao ss.length cap, .slice bo ws.length cbp] 30)) 4 (.bool false)).alloc (.cells #[.slice bo ws.length cbp] 28)
            rwa [World.size_alloc] at h
          have cB : W0.cell? ⟨w.heap.size + 1 + 1, 0, none⟩ = some (.slice bo ws.length cbp) := by
            rw [← hW0]
            exact cell_new _ #[.slice bo ws.length cbp] 28 _ (by simp) 0 _ rfl
          have hsz : W0.heap.size = w.heap.size + 3 := by rw [← hW0]; simp
          rw [hW0]
          clear hW0
          refine wpIn_rangeFunc_ownH (F := Fence.wide) (n := 9) rfl (by omega) (gf := 50) (lb := #[.pointer (some ⟨w.heap.size + 1 + 1, 0, none⟩)]) rfl trivial (enters_of Try.func50 (by kernel_rfl) rfl)
            (inOrder_stops Fence.wide (9 - 1) trivial rfl (by omega) (w.heap.size + 1 + 1) w _ ws hv2' h2 W0 hB0 cB) belowK_t (belowK_b (by omega)) (Below.refl _ _) (fun _ => rfl)
            (fun pre W => ((∀ x ∈ pre, okW x.2 = true) ∧ Boxed W (w.heap.size + 1) 4 (.bool false)) ∧ Below w.heap.size w W)
            (fun c pre W => ((c = .ret ∧ ∃ x ∈ pre, okW x.2 = false) ∧ Boxed W (w.heap.size + 1) 4 (.bool false)) ∧ Below w.heap.size w W)
            (OwnFrom.and (OwnFrom.and (ownFrom_pure _ _) (Own.from (boxed_own _ _ _) _)) (ownFrom_below (Nat.le_refl _) (by omega)))
            (fun c => OwnFrom.and (OwnFrom.and (ownFrom_pure _ _) (Own.from (boxed_own _ _ _) _)) (ownFrom_below (Nat.le_refl _) (by omega)))
            ⟨⟨by simp, bR⟩, hB0⟩
            (fun x a' W => ∃ Bx, w.heap.size + 1 < Bx ∧ W.heap[Bx]? = some (.cells #[.int .i64 x.2.1, .string x.2.2] 53 (0, 0)) ∧ a' = { tmps := #[Value.agg #[Value.slice ao ss.length cap, Value.slice bo ws.length cbp], Value.pointer (some { block := w.heap.size, off := 0 }), Value.pointer (some { block := w.heap.size + 1, off := 0 }), undef, u4, undef, Value.pointer (some ⟨Bx, 0, none⟩), Value.pointer (some { block := w.heap.size, off := 0 }), Value.slice ao ss.length cap, Value.int IntKind.i64 ↑ss.length, Value.bool false, Value.bool false, Value.pointer (some { block := w.heap.size, off := 1 }), Value.slice bo ws.length cbp, Value.int IntKind.i64 ↑ws.length, Value.bool false, Value.bool false, Value.pointer (some { block := w.heap.size, off := 0 }), Value.slice ao ss.length cap, Value.int IntKind.i64 ↑ss.length, Value.int IntKind.i64 ↑ss.length, Value.bool false, u22, u23, u24, u25, u26, u27, Value.pointer (some { block := w.heap.size, off := 1 }), Value.slice bo ws.length cbp, Value.func (Fn.func 50) #[] #[Value.pointer (some { block := w.heap.size + 1 + 1, off := 0 })], .int .i64 x.1, .agg #[.int .i64 x.2.1, .string x.2.2], undef, undef, undef, undef, undef, undef, undef, undef, undef, undef], defers := [] })
            (fun x a' _ X Y row hs hg hr => by obtain ⟨Bx, h1, h2, h3⟩ := hs; exact ⟨Bx, h1, cells_own h2 hg (fun r e => (hr r e).2), h3⟩)
            ?assign ?body ?done ?stop
          case assign =>
            rintro l pre x W K ⟨⟨hp, bR1⟩, hB1⟩ hK
            dsimp only [enc2]
            gi_wp2
            exact hK _ _ ((KeepsOthers.alloc _ _).from _) ((Below.refl _ W).alloc hB1.size _) ⟨⟨hp, bR1.alloc _⟩, hB1.alloc hB1.size _⟩ ⟨W.heap.size, bR1.lt, World.alloc_heap_new W _, rfl⟩
          case body =>
            rintro l pre ⟨i, s1, s2⟩ a' W hl ⟨r, hr⟩ ⟨⟨hp, bR1⟩, hB1⟩ ⟨Bx, hBx, bX, rfl⟩ hlt
            dsimp only at bX ⊢
            have cX0 : W.cell? ⟨Bx, 0, none⟩ = some (.int .i64 s1) := by simp [World.cell?, bX]
            have cX1 : W.cell? ⟨Bx, 1, none⟩ = some (.string s2) := by simp [World.cell?, bX]
            have cR := bR1.cell
            have fR := bR1.frozen
            clear bX
            gi_wp2_with (fail)
            refine ⟨trivial, (CallsIn.inRound l (callsIn_wide.2 (isSector_any _ _))).mono ?_⟩
            rintro e w' ⟨rfl, rfl⟩
            have hS := okW_split s1 s2
            have HS : Hid (okW (s1, s2) = (okN s1 && okS s2)) := hS
            clear hS
            cases hN : okN s1
            · have HN : Hid (okN s1 = false) := hN
              clear hN
              gi_wp2
              refine ⟨trivial, ?_⟩
              gi_wp2
              exact ⟨(KeepsOthers.setCell _ _ _).from _, ⟨⟨⟨rfl, (i, s1, s2), by simp, by rw [HS.out, HN.out]; rfl⟩, bR1.set _⟩, hB1.setCell (p := ⟨w.heap.size + 1, 0, none⟩) (by simp) _⟩⟩
            · have HN : Hid (okN s1 = true) := hN
              clear hN
              gi_wp2_with (fail)
              refine ⟨trivial, (CallsIn.inRound l (callsIn_wide.2 (fitsSector_any _ _))).mono ?_⟩
              rintro e w' ⟨rfl, rfl⟩
              cases hT : okS s2
              · have HT : Hid (okS s2 = false) := hT
                clear hT
                gi_wp2
                exact ⟨(KeepsOthers.setCell _ _ _).from _, ⟨⟨⟨rfl, (i, s1, s2), by simp, by rw [HS.out, HN.out, HT.out]; rfl⟩, bR1.set _⟩, hB1.setCell (p := ⟨w.heap.size + 1, 0, none⟩) (by simp) _⟩⟩
              · have HT : Hid (okS s2 = true) := hT
                clear hT
                gi_wp2
                exact ⟨KeepsFrom.refl _ _, Below.refl _ _, ⟨⟨fun x hx => (List.mem_append.1 hx).elim (hp x) (fun e => by simp at e; subst e; rw [HS.out, HN.out, HT.out]; rfl), bR1⟩, hB1⟩⟩
          case done =>
            rintro D ys W hD rfl ⟨⟨hp, bR1⟩, hB1⟩ hK
            have cR := bR1.cell
            have fR := bR1.frozen
            gi_wp2
            have hK' := (KeepsOthers.setCell W ⟨w.heap.size + 1, 0, none⟩ (.bool true)).same D _ hK rfl
            refine ⟨by simp, .inl ⟨_, _, rfl, run_takeDeferred hK', ?_⟩⟩
            have hc5 := cell_kept (World.cell?_setCell_same' W ⟨w.heap.size + 1, 0, none⟩ (.bool true) (by rw [cR]; rfl)) (grownBy_putObj' _ D (.deferred none)) (fun r e => by cases e; exact ⟨_, hK', rfl⟩)
            refine ⟨.bool true, ?_, ret_bool (okD_yes H64.out h200 hall.out (num_all hp)).symm, (hB1.setCell (p := ⟨w.heap.size + 1, 0, none⟩) (by simp) _).trans (belowK_b (w := w) (Nat.le_refl _) _ D _ _ (by omega) hK' rfl rfl)⟩
            simp [results, Try.f12, go_sem, hc5]
          case stop =>
            rintro D c pre W hD hpre ⟨⟨⟨rfl, hx⟩, bR1⟩, hB1⟩ hK
            have cR := bR1.cell
            have fR := bR1.frozen
            gi_wp2
            refine ⟨by simp, .inl ⟨_, _, rfl, run_takeDeferred hK, ?_⟩⟩
            have hc5 := cell_kept cR (grownBy_putObj' _ D (.deferred none)) (fun r e => by cases e; exact ⟨_, hK, rfl⟩)
            refine ⟨.bool false, ?_, ret_bool (num_bad hpre hx).symm, hB1.trans (belowK_b (w := w) (Nat.le_refl _) W D _ _ (by omega) hK rfl rfl)⟩
            simp [results, Try.f12, go_sem, hc5]
    · have t2 : decide ((200 : Int) < (ws.length : Int)) = true := by simp; omega
      go_enter Try.func12, Try.ntmps12
      go_wp2
      exact bodyPost_ret (v := .bool false) (by simp [results, Try.results12, go_sem]) rfl ⟨ret_bool (okD_late h200).symm, hb0⟩
  · have t1 : ((ss.length : Int) != 64) = true := by simp; omega
    go_enter Try.func12, Try.ntmps12
    go_wp2
    exact bodyPost_ret (v := .bool false) (by simp [results, Try.results12, go_sem]) rfl ⟨ret_bool (okD_len h64).symm, hb0⟩

end Go.Proofs.Ytkalbamigadgnaa
