/- See of the model and of the program. -/
import Derived.Test.YtkiabmgkfneoeafTexts
import Derived.Test.YtkiabmgkfneoeafImplOk
namespace Go.Proofs.Ytkiabmgkfneoeaf
open Go.RowKit Go.Shelf Go.Deep

attribute [local go_sem] Oper.semAt_some

def seeT (ss : List ByteArray) (ws : List Wr) (s : Int) : ByteArray := if okD ss ws = true ∧ okN s = true then (holdN ss ws ws.length).getD s.toNat ByteArray.empty else ByteArray.empty
/-- The text of a sector behind some of the late writes. -/
def seeF (s : Int) (t0 : ByteArray) (pre : List NW1) : ByteArray := pre.foldl (fun t x => if x.2.1 = s then x.2.2 else t) t0
theorem seeF_snoc (s : Int) (t0 : ByteArray) (pre : List NW1) (x : NW1) : seeF s t0 (pre ++ [x]) = if x.2.1 = s then x.2.2 else seeF s t0 pre := by simp [seeF]

theorem seeF_num (ss : List ByteArray) (ws : List Wr) (k : Nat) (hk : k < ss.length) (hall : ∀ i, i < ws.length → okW (ws.getD i wr0) = true) :
    ∀ j, j ≤ ws.length → seeF (k : Int) (ss.getD k ByteArray.empty) (num ws j) = (holdN ss ws j).getD k ByteArray.empty := by
  intro j
  induction j with
  | zero => intro _; rw [holdN_zero]; rfl
  | succ j ih =>
    intro hj
    rw [num_succ, seeF_snoc, ih (by omega), holdN_succ ss ws j (by omega)]
    have hr := okW_range (hall j (by omega))
    generalize ws.getD j wr0 = x at *
    obtain ⟨x1, x2⟩ := x
    obtain ⟨a, rfl⟩ := Int.eq_ofNat_of_zero_le hr.1
    have hl := holdN_length ss ws j
    show (if (a : Int) = (k : Int) then x2 else (holdN ss ws j).getD k ByteArray.empty) = ((holdN ss ws j).set a x2).getD k ByteArray.empty
    by_cases e : a = k
    · subst e
      have : a < (holdN ss ws j).length := by omega
      simp [this]
    · have e' : ¬ (a : Int) = (k : Int) := by omega
      rw [if_neg e']
      simp [List.getD_eq_getElem?_getD, e]

theorem seeF_size (s : Int) (t0 : ByteArray) (ws : List Wr) (h0 : t0.size ≤ 256) (hall : ∀ i, i < ws.length → okW (ws.getD i wr0) = true) : ∀ j, j ≤ ws.length → (seeF s t0 (num ws j)).size ≤ 256 := by
  intro j
  induction j with
  | zero => intro _; exact h0
  | succ j ih =>
    intro hj
    rw [num_succ, seeF_snoc]
    have hr := okW_range (hall j (by omega))
    split
    · exact hr.2.2
    · exact ih (by omega)

set_option maxRecDepth 100000 in
set_option maxHeartbeats 2000000 in
theorem implSee_any (v1 v2 : Value) (ss : List ByteArray) (ws : List Wr) (s : Int) (w : World) (hv1 : SR w v1 ss) (hv2 : WR w v2 ws) (h1 : ss.length ≤ 10000000000000) (h2 : ws.length ≤ 10000000000000) :
    Calls Try.prog 23 #[.agg #[v1, v2], .int .i64 s] w fun e w' => e = .returned (.string (seeT ss ws s)) ∧ Below w.heap.size w w' := by
  have hb0 := bel_two w (.cells #[v1, v2] 30) (.cells #[.int .i64 s] 2)
  refine (callsIn_wide (n := 9)).1 ?_
  refine callsIn_of_wp_marks Try.func23 rfl trivial ?_ rfl
  simp only [Try.ntmps23, List.size_toArray, List.length_cons, List.length_nil, Nat.reduceAdd, Nat.reduceSub, Array.replicate_succ, Array.replicate_zero, List.push_toArray, List.append_toArray, List.nil_append, List.cons_append]
  gi_wp2_with (fail)
  refine ⟨trivial, (callsIn_wide.2 (implDiskOk_any _ _ ss ws _ (hv1.later hb0) (hv2.later hb0) h1 h2)).mono ?_⟩
  rintro e w1 ⟨rfl, hb1⟩
  have hbw1 : Below w.heap.size w w1 := hb0.trans (hb1.mono (by simp; omega))
  have c0 : w1.cell? ⟨w.heap.size, 0, none⟩ = some v1 := cell_later hb1 (cell_later (bel_one _ _) (cell_new w #[v1, v2] 30 _ rfl 0 _ rfl))
  have c1 : w1.cell? ⟨w.heap.size, 1, none⟩ = some v2 := cell_later hb1 (cell_later (bel_one _ _) (cell_new w #[v1, v2] 30 _ rfl 1 _ rfl))
  have bS : Boxed w1 (w.heap.size + 1) 2 (.int .i64 s) := by
    have h := Boxed.new (w.alloc (.cells #[v1, v2] 30)) 2 (.int .i64 s)
    rw [World.size_alloc] at h
    exact (hb1.block _ (by simp)).trans h
  have c2 := bS.cell
  have hz0 : w.heap.size < w1.heap.size := World.block_lt_of_cell? _ _ c0
  have hz1 : w.heap.size + 1 < w1.heap.size := bS.lt
  cases hok : okD ss ws
  · have HK : Hid (okD ss ws = false) := hok
    clear hok
    gi_wp2
    refine ⟨trivial, ?_⟩
    gi_wp2
    exact ⟨.string ⟨#[]⟩, by simp [results, Try.f23], ret_str (by unfold seeT; rw [if_neg (by rw [HK.out]; simp)]; rfl), hbw1⟩
  · have HK : Hid (okD ss ws = true) := hok
    clear hok
    gi_wp2_with (fail)
    refine ⟨trivial, (callsIn_wide.2 (isSector_any _ _)).mono ?_⟩
    rintro e w1 ⟨rfl, rfl⟩
    cases hN : okN s
    · have HN : Hid (okN s = false) := hN
      clear hN
      gi_wp2
      exact ⟨.string ⟨#[]⟩, by simp [results, Try.f23], ret_str (by unfold seeT; rw [if_neg (by rw [HN.out]; simp)]; rfl), hbw1⟩
    · have hr : 0 ≤ s ∧ s ≤ 63 := by simpa [okN] using hN
      obtain ⟨k, rfl⟩ := Int.eq_ofNat_of_zero_le hr.1
      have HN : Hid (okN (k : Int) = true) := hN
      clear hN
      obtain ⟨l64, l200, hsz, hall⟩ := okD_all HK.out
      have hkn : k < ss.length := by omega
      have HT : Hid (seeT ss ws (k : Int) = (holdN ss ws ws.length).getD k ByteArray.empty) := (by
        unfold seeT
        rw [if_pos ⟨HK.out, HN.out⟩]
        rfl : seeT ss ws (k : Int) = (holdN ss ws ws.length).getD k ByteArray.empty)
      have HF : Hid (seeF (k : Int) (ss.getD k ByteArray.empty) (num ws ws.length) = (holdN ss ws ws.length).getD k ByteArray.empty) := seeF_num ss ws k hkn hall ws.length (Nat.le_refl _)
      have HZ : Hid ((seeF (k : Int) (ss.getD k ByteArray.empty) (num ws ws.length)).size ≤ 256) := seeF_size _ _ ws (hsz k hkn) hall ws.length (Nat.le_refl _)
      have hv2' := hv2
      obtain ⟨ao, cap, rfl, hv⟩ := hv1
      obtain ⟨bo, cbp, rfl, hu⟩ := hv2
      clear hu
      obtain ⟨b, o, rfl, hc⟩ := hv k hkn
      have hc1 := cell_later hbw1 hc
      generalize ss.getD k ByteArray.empty = t0 at *
      clear hv hc l64 hsz hall hr
      gi_wp2_with (fail)
      refine ⟨trivial, (inOrder_in Fence.wide _ trivial rfl _ _ _ _).mono ?_⟩
      rintro e w3 ⟨rfl, rfl⟩
      gi_wp2_with (fail)
      obtain ⟨W0, hW0⟩ : ∃ W0, (w1.alloc (.cells #[.string t0] 9)).alloc (.cells #[.slice bo ws.length cbp] 28) = W0 := ⟨_, rfl⟩
      have hB0 : Below w.heap.size w W0 := by rw [← hW0]; exact (hbw1.alloc hbw1.size _).alloc (Nat.le_trans hbw1.size (by simp)) _
      have bT : Boxed W0 w1.heap.size 9 (.string t0) := by rw [← hW0]; exact (Boxed.new w1 9 (.string t0)).alloc _
      have bS0 : Boxed W0 (w.heap.size + 1) 2 (.int .i64 k) := by rw [← hW0]; exact (bS.alloc _).alloc _
      have cB : W0.cell? ⟨w1.heap.size + 1, 0, none⟩ = some (.slice bo ws.length cbp) := by
        rw [← hW0]
        exact cell_new _ #[.slice bo ws.length cbp] 28 _ (by simp) 0 _ rfl
      have hsz : W0.heap.size = w1.heap.size + 2 := by rw [← hW0]; simp
      rw [hW0]
      clear hW0 hb1 hb0
      refine wpIn_rangeFunc_ownH (F := Fence.wide) (n := 9) rfl (by omega) (gf := 50) (lb := #[.pointer (some ⟨w1.heap.size + 1, 0, none⟩)]) rfl trivial (enters_of Try.func50 (by kernel_rfl) rfl)
        (inOrder_stops Fence.wide (9 - 1) trivial rfl (by omega) (w1.heap.size + 1) w _ ws hv2' h2 W0 hB0 cB) belowK_t (belowK_b (by omega)) (Below.refl _ _) (fun _ => rfl)
        (fun pre W => (Boxed W w1.heap.size 9 (.string (seeF (k : Int) t0 pre)) ∧ Boxed W (w.heap.size + 1) 2 (.int .i64 k)) ∧ Below w.heap.size w W)
        (fun _ _ _ => False)
        (OwnFrom.and (OwnFrom.and (Own.from (boxed_own _ _ _) _) (Own.from (boxed_own _ _ _) _)) (ownFrom_below (Nat.le_refl _) (by omega)))
        (fun _ _ _ _ _ hs _ _ => hs)
        ⟨⟨bT, bS0⟩, hB0⟩
        (fun x a' W => ∃ Bx, w1.heap.size < Bx ∧ W.heap[Bx]? = some (.cells #[.int .i64 x.2.1, .string x.2.2] 53 (0, 0)) ∧ a' = { tmps := #[Value.agg #[Value.slice (some { block := b, off := o }) ss.length cap, Value.slice bo ws.length cbp], Value.int IntKind.i64 ↑k, Value.pointer (some { block := w.heap.size, off := 0 }), Value.pointer (some { block := w.heap.size + 1, off := 0 }), Value.string { data := #[] }, Value.pointer (some { block := w1.heap.size, off := 0 }), undef, Value.pointer (some ⟨Bx, 0, none⟩), Value.agg #[Value.slice (some { block := b, off := o }) ss.length cap, Value.slice bo ws.length cbp], Value.bool true, Value.bool false, Value.bool false, Value.int IntKind.i64 ↑k, Value.bool true, Value.bool false, Value.bool false, Value.pointer (some { block := w.heap.size, off := 0 }), Value.slice (some { block := b, off := o }) ss.length cap, Value.int IntKind.i64 ↑k, Value.pointer (some { block := b, off := o + k }), Value.string t0, Value.pointer (some { block := w.heap.size, off := 1 }), Value.slice bo ws.length cbp, Value.func (Fn.func 50) #[] #[Value.pointer (some { block := w1.heap.size + 1, off := 0 })], .int .i64 x.1, .agg #[.int .i64 x.2.1, .string x.2.2], undef, undef, undef, undef, undef, undef, undef, undef], defers := [] })
        (fun x a' _ X Y row hs hg hr => by obtain ⟨Bx, h1, h2, h3⟩ := hs; exact ⟨Bx, h1, cells_own h2 hg (fun r e => (hr r e).2), h3⟩)
        ?assign ?body ?done ?stop
      case assign =>
        rintro l pre x W K ⟨⟨bT1, bS1⟩, hB1⟩ hK
        dsimp only [enc2]
        gi_wp2
        exact hK _ _ ((KeepsOthers.alloc _ _).from _) ((Below.refl _ W).alloc hB1.size _) ⟨⟨bT1.alloc _, bS1.alloc _⟩, hB1.alloc hB1.size _⟩ ⟨W.heap.size, bT1.lt, World.alloc_heap_new W _, rfl⟩
      case body =>
        rintro l pre ⟨i, s1, s2⟩ a' W hl ⟨r, hr⟩ ⟨⟨bT1, bS1⟩, hB1⟩ ⟨Bx, hBx, bX, rfl⟩ hlt
        dsimp only at bX ⊢
        have cX0 : W.cell? ⟨Bx, 0, none⟩ = some (.int .i64 s1) := by simp [World.cell?, bX]
        have cX1 : W.cell? ⟨Bx, 1, none⟩ = some (.string s2) := by simp [World.cell?, bX]
        have cT := bT1.cell
        have fT := bT1.frozen
        have cS := bS1.cell
        clear bX
        by_cases hsk : s1 = (k : Int)
        · have te : (s1 == (k : Int)) = true := by simp [hsk]
          have HSK : Hid (s1 = (k : Int)) := hsk
          clear hsk
          gi_wp2
          exact ⟨(KeepsOthers.setCell _ _ _).from _, (Below.refl _ W).setCell (p := ⟨w1.heap.size, 0, none⟩) (by simp; omega) _, ⟨⟨by rw [seeF_snoc, if_pos HSK.out]; exact bT1.set _, bS1.other (by omega) _⟩, hB1.setCell (p := ⟨w1.heap.size, 0, none⟩) (by simp; omega) _⟩⟩
        · have te : (s1 == (k : Int)) = false := by simp [hsk]
          have HSK : Hid (¬ s1 = (k : Int)) := hsk
          clear hsk
          gi_wp2
          exact ⟨KeepsFrom.refl _ _, Below.refl _ _, ⟨⟨by rw [seeF_snoc, if_neg HSK.out]; exact bT1, bS1⟩, hB1⟩⟩
      case done =>
        rintro D ys W hD rfl ⟨⟨bT1, bS1⟩, hB1⟩ hK
        have cT := bT1.cell
        gi_wp2_with (fail)
        refine ⟨trivial, (callsIn_wide.2 (copyText_any _ _ (by have := HZ.out; omega))).mono ?_⟩
        rintro e w5 ⟨rfl, hb5⟩
        have hK5 : w5.heap[D]? = some (.deferred (some [])) := (hb5.block D (Array.getElem?_eq_some_iff.1 hK).1).trans hK
        have hbw5 := bel_then hB1 hB1.size hb5
        gi_wp2
        refine ⟨by simp, .inl ⟨_, _, rfl, run_takeDeferred hK5, ?_⟩⟩
        exact ⟨.string (seeF (k : Int) t0 (num ws ws.length)), by simp [results, Try.f23], ret_str (by rw [HT.out, HF.out]), hbw5.trans (belowK_b (w := w) (Nat.le_refl _) w5 D _ _ (by omega) hK5 rfl rfl)⟩
      case stop =>
        rintro D c pre W _ _ h _
        exact h.elim

theorem field0 (x : Option Addr) (n c : Nat) (u : Value) (w : World) : (Instr.field 30 (.agg #[.slice x n c, u]) 0).run Try.prog w = .ok (.slice x n c) w := by kernel_rfl

theorem okN_dec (s : Int) : decide (0 ≤ s ∧ s ≤ 63) = okN s := rfl

set_option maxRecDepth 100000 in
set_option maxHeartbeats 1000000 in
theorem specSee_any (v1 v2 : Value) (ss : List ByteArray) (ws : List Wr) (s : Int) (w : World) (hv1 : SR w v1 ss) (hv2 : WR w v2 ws) (h1 : ss.length ≤ 10000000000000) (h2 : ws.length ≤ 10000000000000) :
    Calls Try.prog 22 #[.agg #[v1, v2], .int .i64 s] w fun e w' => e = .returned (.string (seeT ss ws s)) ∧ Below w.heap.size w w' := by
  have hb0 := bel_one w (.cells #[v1, v2] 30)
  go_enter Try.func22, Try.ntmps22
  go_wp2_with (fail)
  refine (specDiskOk_any _ _ ss ws _ (hv1.later hb0) (hv2.later hb0) h1 h2).mono ?_
  rintro e w1 ⟨rfl, hb1⟩
  have hbw1 : Below w.heap.size w w1 := hb0.trans (hb1.mono (by simp))
  have c0 : w1.cell? ⟨w.heap.size, 0, none⟩ = some v1 := cell_later hb1 (cell_new w #[v1, v2] 30 _ rfl 0 _ rfl)
  have c1 : w1.cell? ⟨w.heap.size, 1, none⟩ = some v2 := cell_later hb1 (cell_new w #[v1, v2] 30 _ rfl 1 _ rfl)
  cases hok : okD ss ws
  · have HK : Hid (okD ss ws = false) := hok
    clear hok
    go_wp2
    go_ret
    exact ⟨ret_str (by unfold seeT; rw [if_neg (by rw [HK.out]; simp)]; rfl), hbw1⟩
  · have HK : Hid (okD ss ws = true) := hok
    clear hok
    go_wp2_with (fail)
    refine (l1In_any _ _ _ _).mono ?_
    rintro e w1 ⟨rfl, rfl⟩
    rw [okN_dec]
    cases hN : okN s
    · have HN : Hid (okN s = false) := hN
      clear hN
      go_wp2
      go_ret
      exact ⟨ret_str (by unfold seeT; rw [if_neg (by rw [HN.out]; simp)]; rfl), hbw1⟩
    · have hr : 0 ≤ s ∧ s ≤ 63 := by simpa [okN] using hN
      obtain ⟨k, rfl⟩ := Int.eq_ofNat_of_zero_le hr.1
      have HN : Hid (okN (k : Int) = true) := hN
      clear hN
      have l64 := (okD_all HK.out).1
      have hkn : k < ss.length := by omega
      have HT : Hid (seeT ss ws (k : Int) = (holdN ss ws ws.length).getD k ByteArray.empty) := (by
        unfold seeT
        rw [if_pos ⟨HK.out, HN.out⟩]
        rfl : seeT ss ws (k : Int) = (holdN ss ws ws.length).getD k ByteArray.empty)
      have E6 : Hid (holdS ss ws = holdN ss ws ws.length) := (by unfold holdS; rw [if_pos HK.out] : holdS ss ws = holdN ss ws ws.length)
      clear l64
      go_wp2_with (fail)
      refine (specHold_any _ _ ss ws _ (hv1.later hbw1) (hv2.later hbw1) h1 h2).mono ?_
      rintro e w2 ⟨u1, u2, rfl, hN2, hb2⟩
      rw [E6.out] at hN2
      have hl := holdN_length ss ws ws.length
      have hS2 : NS w1.heap.size w2 u1 (holdN ss ws ws.length) := ⟨hN2.1, hN2.2.2.1, hN2.2.2.2.2.1⟩
      obtain ⟨b, cap, rfl, _, _, hcell, _⟩ := hS2.form (by omega)
      have hc := hcell k (by omega)
      have hbw2 := bel_then hbw1 hbw1.size hb2
      rw [← HT.out] at hc
      rw [hl]
      have hfd := fun x n c u => field0 x n c u w2
      clear hS2 hN2 hcell hl c0 c1
      go_wp2
      go_ret
      exact ⟨rfl, hbw2⟩

end Go.Proofs.Ytkiabmgkfneoeaf
