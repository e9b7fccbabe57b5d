import Derived.Test.YtaldfkfjmgkjbaaZMBase
import Derived.Test.YtaldfkfjmgkjbaaZHImpA
import Derived.Test.YtaldfkfjmgkjbaaZU0
import Derived.Test.YtaldfkfjmgkjbaaZU2
import Derived.Test.YtaldfkfjmgkjbaaZMBox
import Derived.Test.YtaldfkfjmgkjbaaZU1
import Derived.Test.YtaldfkfjmgkjbaaZMIAdd
import Derived.Test.YtaldfkfjmgkjbaaZHLawN
/- The box of a draft; the fields of an object with their place. -/
namespace Go.Proofs.Ytaldfkfjmgkjbaa
open Go.RowKit

/-- The box of a draft. -/
structure DY (W : World) (N : Nat) (u0 u1 u2 u3 u4 u5 u6 u7 u8 : Value) : Prop where
  c0 : W.cell? ⟨N, 0, none⟩ = some u0
  c1 : W.cell? ⟨N, 1, none⟩ = some u1
  c2 : W.cell? ⟨N, 2, none⟩ = some u2
  c3 : W.cell? ⟨N, 3, none⟩ = some u3
  c4 : W.cell? ⟨N, 4, none⟩ = some u4
  c5 : W.cell? ⟨N, 5, none⟩ = some u5
  c6 : W.cell? ⟨N, 6, none⟩ = some u6
  c7 : W.cell? ⟨N, 7, none⟩ = some u7
  c8 : W.cell? ⟨N, 8, none⟩ = some u8
  row : ∃ f, W.rowIs N 59 9 f
theorem DY.lt {W : World} {N : Nat} {u0 u1 u2 u3 u4 u5 u6 u7 u8 : Value} (h : DY W N u0 u1 u2 u3 u4 u5 u6 u7 u8) : N < W.heap.size := by
  obtain ⟨f, F⟩ := h.row
  exact F.lt
theorem DY.frozen {W : World} {N : Nat} {u0 u1 u2 u3 u4 u5 u6 u7 u8 : Value} (h : DY W N u0 u1 u2 u3 u4 u5 u6 u7 u8) (j : Nat) : W.frozen? ⟨N, j, none⟩ = false := by
  obtain ⟨f, F⟩ := h.row
  exact F.frozen j
theorem DY.block {W W' : World} {N : Nat} {u0 u1 u2 u3 u4 u5 u6 u7 u8 : Value} (h : DY W N u0 u1 u2 u3 u4 u5 u6 u7 u8) (hb : W'.heap[N]? = W.heap[N]?) : DY W' N u0 u1 u2 u3 u4 u5 u6 u7 u8 := by
  obtain ⟨f, F⟩ := h.row
  have e : ∀ o u, W.cell? ⟨N, o, none⟩ = some u → W'.cell? ⟨N, o, none⟩ = some u := fun o u q => (World.cell?_of_block (w := W) (a := ⟨N, o, none⟩) hb).trans q
  exact ⟨e _ _ h.c0, e _ _ h.c1, e _ _ h.c2, e _ _ h.c3, e _ _ h.c4, e _ _ h.c5, e _ _ h.c6, e _ _ h.c7, e _ _ h.c8, ⟨f, F.of_block hb⟩⟩
theorem DY.later {W W' : World} {N : Nat} {u0 u1 u2 u3 u4 u5 u6 u7 u8 : Value} (h : DY W N u0 u1 u2 u3 u4 u5 u6 u7 u8) (hb : Below W.heap.size W W') : DY W' N u0 u1 u2 u3 u4 u5 u6 u7 u8 := h.block (hb.block _ h.lt)
theorem DY.grown {W W' : World} {N : Nat} {r : Option Nat} {u0 u1 u2 u3 u4 u5 u6 u7 u8 : Value} (h : DY W N u0 u1 u2 u3 u4 u5 u6 u7 u8) (hg : W.grownBy W' r) (hr : some N ≠ r) : DY W' N u0 u1 u2 u3 u4 u5 u6 u7 u8 := h.block (hg.block _ h.lt hr)
theorem DY.set {W : World} {N b i : Nat} {u0 u1 u2 u3 u4 u5 u6 u7 u8 : Value} (h : DY W N u0 u1 u2 u3 u4 u5 u6 u7 u8) (hb : N ≠ b) (v : Value) : DY (W.setCell ⟨b, i, none⟩ v) N u0 u1 u2 u3 u4 u5 u6 u7 u8 := h.block (Below.heap_setCell _ _ _ _ hb)
theorem DY.set8 {W : World} {N : Nat} {u0 u1 u2 u3 u4 u5 u6 u7 u8 : Value} (h : DY W N u0 u1 u2 u3 u4 u5 u6 u7 u8) (v : Value) : DY (W.setCell ⟨N, 8, none⟩ v) N u0 u1 u2 u3 u4 u5 u6 u7 v := by
  obtain ⟨f, F⟩ := h.row
  have F' := F.set 8 v
  have e : ∀ o u, o ≠ 8 → W.cell? ⟨N, o, none⟩ = some u → (W.setCell ⟨N, 8, none⟩ v).cell? ⟨N, o, none⟩ = some u := fun o u ho q => by
    rw [World.cell?_setCell_other]
    · exact q
    · intro k
      simp at k <;> omega
  exact ⟨e _ _ (by omega) h.c0, e _ _ (by omega) h.c1, e _ _ (by omega) h.c2, e _ _ (by omega) h.c3, e _ _ (by omega) h.c4, e _ _ (by omega) h.c5, e _ _ (by omega) h.c6, e _ _ (by omega) h.c7, by rw [F'.cell (by omega), if_pos rfl], ⟨_, F'⟩⟩

theorem DY.new (w : World) (u0 u1 u2 u3 u4 u5 u6 u7 u8 : Value) : DY (w.alloc (.cells #[u0, u1, u2, u3, u4, u5, u6, u7, u8] 59)) w.heap.size u0 u1 u2 u3 u4 u5 u6 u7 u8 :=
  ⟨cell_new w _ _ _ rfl 0 _ rfl, cell_new w _ _ _ rfl 1 _ rfl, cell_new w _ _ _ rfl 2 _ rfl, cell_new w _ _ _ rfl 3 _ rfl, cell_new w _ _ _ rfl 4 _ rfl, cell_new w _ _ _ rfl 5 _ rfl, cell_new w _ _ _ rfl 6 _ rfl, cell_new w _ _ _ rfl 7 _ rfl, cell_new w _ _ _ rfl 8 _ rfl, ⟨_, row_any w _ 59⟩⟩
theorem fieldsAt_w (g cap : Nat) (W : List Int) (a m : Nat) (w : World) (hW : WS w g 0 W) (hl : W.length = 3200) (hc : 3200 ≤ cap) (ha : a + 4 ≤ 3200) (hm : gw W a = (m : Int)) (m60 : m ≤ 60) (hn : nx W a ≤ 3200) :
    Calls Try.prog 33 #[.slice (some ⟨g, 0, none⟩) 3200 cap, .int .i64 a] w fun e w' => (∃ q c, e = .returned (.slice (some ⟨g, q, none⟩) m c) ∧ m ≤ c ∧ (m = 0 ∨ q = a + 4)) ∧ w' = w := by
  have B := behind_any g 0 cap W a w hW hl ha (by omega)
  have hn' : nx W a = a + 4 + m := by unfold nx; rw [hm]; rfl
  rw [hn'] at B hn
  clear hm hW hl hn'
  go_enter Try.func33, Try.ntmps33
  go_wp2_with fail
  refine B.mono ?_
  rintro x w1 ⟨rfl, rfl⟩
  go_wp2
  · have h0 : m = 0 := by omega
    go_ret
    exact ⟨⟨_, _, rfl, by omega, .inl h0⟩, rfl⟩
  · go_ret
    exact ⟨⟨_, _, rfl, by omega, .inr (by omega)⟩, rfl⟩
theorem own_osY {w : World} {B n : Nat} {v : Value} {xs : List Value} (h : w.ownsRow B 2 1 v n xs) : Disk.OS w 2 1 v n ∧ ∀ b, Disk.rowOf v n = some b → B ≤ b := by
  rcases h.2 with ⟨rfl, rfl⟩ | ⟨g, cap, cur, rfl, hB, hh, h1, h2, h3, h4⟩
  · exact ⟨⟨_, _, rfl, .inl rfl⟩, fun b q => (zero_row q).elim⟩
  · exact ⟨⟨_, _, rfl, .inr ⟨g, cur.size, fun i => cur[i]?.getD undef, rfl, by omega, ⟨cur, hh, rfl, fun i hi => by simp [hi]⟩⟩⟩, fun b q => by have := rowof q; omega⟩
theorem HN.of_own3Y {B B3 g1 g2 c1 c2 : Nat} {w : World} {v3 : Value} {h : Hp} (r1 : RI w g1 h.words c1) (r2 : RI w g2 h.roots c2) (o3 : w.ownsRow B3 2 1 v3 h.kept.length (icells h.kept))
    (b1 : B ≤ g1) (b2 : B ≤ g2) (_b3 : B ≤ B3) (d12 : g1 ≠ g2) (d13 : g1 < B3) (d23 : g2 < B3) :
    HN B w (.agg #[.slice (some ⟨g1, 0, none⟩) h.words.length c1, .slice (some ⟨g2, 0, none⟩) h.roots.length c2, .int .i64 h.old, .int .i64 h.eden, .int .i64 h.surv, .bool h.flip, .int .i64 h.hash, v3]) h := by
  obtain ⟨s3, k3⟩ := own_osY o3
  exact ⟨_, _, _, rfl, ⟨r1.os, r2.os, s3⟩, ⟨r1.ir r1.le, r2.ir r2.le, IR_of_owns o3⟩, ⟨fun b k => by have := rowof k; omega, fun b k => by have := rowof k; omega, fun b k => by have := k3 b k; omega⟩,
    fun b k k' => by have := rowof k; have := rowof k'; omega, fun b k k' => by have := rowof k; have := k3 b k'; omega, fun b k k' => by have := rowof k; have := k3 b k'; omega⟩
theorem own_blockY {w w' : World} {B n : Nat} {v : Value} {xs : List Value} (h : w.ownsRow B 2 1 v n xs) (hb : ∀ b, B ≤ b → w'.heap[b]? = w.heap[b]?) : w'.ownsRow B 2 1 v n xs := by
  obtain ⟨hl, h⟩ := h
  refine ⟨hl, ?_⟩
  rcases h with e | ⟨g, cap, cur, e, hB, hh, r⟩
  · exact .inl e
  · exact .inr ⟨g, cap, cur, e, hB, (hb g hB).trans hh, r⟩

end Go.Proofs.Ytaldfkfjmgkjbaa

/- become of the program. -/
namespace Go.Proofs.Ytaldfkfjmgkjbaa
open Go.RowKit

theorem cW_next {h : Hp} {l : List Nat} (R : PartsAt h l) (hs : l.Pairwise (· < ·)) (f : Int → Int) {k : Nat} (hk : k < l.length) :
    cW f (cW f h.words (fldI h.words (l.take k))) (rngB (l.getD k 0 + 4) (gw h.words (l.getD k 0)).toNat) = cW f h.words (fldI h.words (l.take (k + 1))) := by
  have hm := lget_mem l k hk
  rw [cW_cW]
  · exact cW_congr fun j _ => (fldI_snoc _ _ _ hk j).symm
  · intro j _ hj
    rw [Bool.eq_false_iff]
    intro q
    have q' := of_decide_eq_true q
    have nm : l.getD k 0 ∉ l.take k := by
      intro z
      have hp := hs
      rw [← List.take_append_drop k l, List.pairwise_append] at hp
      have z2 : l.getD k 0 ∈ l.drop k := by
        rw [show l.getD k 0 = (l.drop k)[0]'(by simp; omega) from by simp [hk]]
        exact List.getElem_mem _
      have := hp.2.2 _ z _ z2
      omega
    rw [fld_apart R (fun b hb => List.mem_of_mem_take hb) hm nm q'.1 (by unfold nx; omega)] at hj
    cases hj

set_option maxRecDepth 100000 in
set_option maxHeartbeats 6400000 in
theorem become_c (F A B : Nat) (a b : Int) (f : Int → Int) (hF : F = 27 ∨ F = 28) (T : ThenF F A B a b f)
    (v : Value) (h : Hp) (w : World) (hv : HR w v h) (hwo : h.words.length ≤ 1000000000000) (hro : h.roots.length ≤ 1000000000000) (hke : h.kept.length ≤ 1000000000000)
    (hA : w.cell? ⟨A, 0, none⟩ = some (.int .i64 a)) (hB : w.cell? ⟨B, 0, none⟩ = some (.int .i64 b)) (hfit : refB h a = true → refB h b = true → ∀ x, fitB (obC h) x = true → fitB (obC h) (f x) = true) :
    Calls Try.prog 26 #[v, .int .i64 a, .int .i64 b, .func (.func F) #[] #[.pointer (some ⟨A, 0, none⟩), .pointer (some ⟨B, 0, none⟩)]] w fun e w' => (∃ u, e = .returned (.tuple #[u, .bool (befB h a b)]) ∧ HN w.heap.size w' u (beC f h a b)) ∧ Below w.heap.size w w' := by
  obtain ⟨v1, v2, v3, rfl, i1, i2, i3⟩ := id hv
  obtain ⟨a1, c1, rfl, -⟩ := IRs i1
  obtain ⟨a2, c2, rfl, -⟩ := IRs i2
  obtain ⟨a3, c3, rfl, -⟩ := IRs i3
  have ltA : A < w.heap.size := World.block_lt_of_cell? _ _ hA
  have ltB : B < w.heap.size := World.block_lt_of_cell? _ _ hB
  have hb0 : Below w.heap.size w ((w.alloc (.cells #[.slice a1 h.words.length c1, .slice a2 h.roots.length c2, .int .i64 h.old, .int .i64 h.eden, .int .i64 h.surv, .bool h.flip, .int .i64 h.hash, .slice a3 h.kept.length c3] 26)).alloc (.cells #[.slice none 0 0, .slice none 0 0, .int .i64 0, .int .i64 0, .int .i64 0, .bool false, .int .i64 0, .slice none 0 0] 26)) := bel_after (bel_one _ _) (bel_one _ _)
  obtain ⟨f0, R0⟩ : ∃ f0, ((w.alloc (.cells #[.slice a1 h.words.length c1, .slice a2 h.roots.length c2, .int .i64 h.old, .int .i64 h.eden, .int .i64 h.surv, .bool h.flip, .int .i64 h.hash, .slice a3 h.kept.length c3] 26)).alloc (.cells #[.slice none 0 0, .slice none 0 0, .int .i64 0, .int .i64 0, .int .i64 0, .bool false, .int .i64 0, .slice none 0 0] 26)).rowIs (w.heap.size + 1) 26 8 f0 := by
    have q := row_any (w.alloc (.cells #[.slice a1 h.words.length c1, .slice a2 h.roots.length c2, .int .i64 h.old, .int .i64 h.eden, .int .i64 h.surv, .bool h.flip, .int .i64 h.hash, .slice a3 h.kept.length c3] 26)) #[.slice none 0 0, .slice none 0 0, .int .i64 0, .int .i64 0, .int .i64 0, .bool false, .int .i64 0, .slice none 0 0] 26
    rw [World.size_alloc] at q
    exact ⟨_, q⟩
  have C := draftOf_c2 _ h _ (hv.later hb0) hwo hro hke
  clear i1 i2 i3
  go_enter Try.func26, Try.ntmps26
  go_wp2_with fail
  refine C.mono ?_
  rintro e w1 ⟨dr, hb1⟩
  have hbw1 := bel_after hb0 hb1
  have R1 := R0.of_block (hb1.block _ R0.lt)
  clear C R0
  rcases dr with ⟨hk, g1, g2, g3, oa, oc, rfl, ⟨q1, q2, q3⟩, ⟨l0, l1, l2⟩, io, farO, lowO⟩ | ⟨hk, rfl⟩
  case inr =>
    have al := bel_one w1 (.cells #[.slice none 0 0, .slice none 0 0, .slice none 0 0, .int .i64 0, .int .i64 0, .int .i64 0, .bool false, .int .i64 0, .slice none 0 0] 59)
    have hbA := bel_after hbw1 al
    have R2 := R1.of_block (al.block _ R1.lt)
    clear R1
    have AB : befB h a b = false := by unfold befB; rw [hk]; rfl
    have r0 := R2.cell (i := 0) (by omega)
    have r1 := R2.cell (i := 1) (by omega)
    have r2 := R2.cell (i := 2) (by omega)
    have r3 := R2.cell (i := 3) (by omega)
    have r4 := R2.cell (i := 4) (by omega)
    have r5 := R2.cell (i := 5) (by omega)
    have r6 := R2.cell (i := 6) (by omega)
    have r7 := R2.cell (i := 7) (by omega)
    have fR := fun i => R2.frozen i
    have ltR := R2.lt
    have B9 : Below w.heap.size w (((((((((w1.alloc (.cells #[.slice none 0 0, .slice none 0 0, .slice none 0 0, .int .i64 0, .int .i64 0, .int .i64 0, .bool false, .int .i64 0, .slice none 0 0] 59)).setCell ⟨w.heap.size + 1, 0, none⟩ (.slice none 0 0)).setCell ⟨w.heap.size + 1, 1, none⟩ (.slice none 0 0)).setCell ⟨w.heap.size + 1, 2, none⟩ (.int .i64 0)).setCell ⟨w.heap.size + 1, 3, none⟩ (.int .i64 0)).setCell ⟨w.heap.size + 1, 4, none⟩ (.int .i64 0)).setCell ⟨w.heap.size + 1, 5, none⟩ (.bool false)).setCell ⟨w.heap.size + 1, 6, none⟩ (.int .i64 0)).setCell ⟨w.heap.size + 1, 7, none⟩ (.slice none 0 0)) := by
      repeat (refine Below.setCell ?_ (p := ⟨w.heap.size + 1, _, none⟩) (Nat.le_succ _) _)
      exact hbA
    go_wp2
    exact bodyPost_ret (v := .tuple #[.agg #[.slice none 0 0, .slice none 0 0, .int .i64 0, .int .i64 0, .int .i64 0, .bool false, .int .i64 0, .slice none 0 0], .bool false]) (by simp [results, Try.results26, go_sem, r0, r1, r2, r3, r4, r5, r6, r7]) rfl ⟨⟨_, zero_ret AB (be_no AB)⟩, B9⟩
  have RG := c_right hk
  have hl := RG.1.1
  have l0' : w.heap.size + 1 + 1 ≤ g1 := by simpa using l0
  rw [hl] at q1 ⊢
  have HLN : Hid (h.words.length = 3200) := hl
  have al := bel_one w1 (.cells #[.slice (some ⟨g1, 0, none⟩) 3200 3200, .slice oa (obC h).length oc, .slice (some ⟨g2, 0, none⟩) h.roots.length h.roots.length, .int .i64 h.old, .int .i64 h.eden, .int .i64 h.surv, .bool h.flip, .int .i64 h.hash, .slice (some ⟨g3, 0, none⟩) h.kept.length h.kept.length] 59)
  have R2 := R1.of_block (al.block _ R1.lt)
  have D2 : DY (w1.alloc (.cells #[.slice (some ⟨g1, 0, none⟩) 3200 3200, .slice oa (obC h).length oc, .slice (some ⟨g2, 0, none⟩) h.roots.length h.roots.length, .int .i64 h.old, .int .i64 h.eden, .int .i64 h.surv, .bool h.flip, .int .i64 h.hash, .slice (some ⟨g3, 0, none⟩) h.kept.length h.kept.length] 59)) w1.heap.size (.slice (some ⟨g1, 0, none⟩) 3200 3200) (.slice oa (obC h).length oc) (.slice (some ⟨g2, 0, none⟩) h.roots.length h.roots.length) (.int .i64 h.old) (.int .i64 h.eden) (.int .i64 h.surv) (.bool h.flip) (.int .i64 h.hash) (.slice (some ⟨g3, 0, none⟩) h.kept.length h.kept.length) := DY.new w1 _ _ _ _ _ _ _ _ _
  have SO := ok_sorted hk
  have OL := ob_short h
  have IS := fun (x : Int) (W : World) (hb : Below w1.heap.size w1 W) => isObject_any _ (obC h) x W (io.later hb) SO (by omega)
  have ISA := IS a _ al
  rw [refL_ob] at ISA
  obtain ⟨d0, d1, d2, d3, d4, d5, d6, d7, d8, -⟩ := id D2
  clear hl
  go_wp2_with fail
  refine ISA.mono ?_
  rintro e w2 ⟨rfl, hb2⟩
  have hb12 := bel_after al hb2
  have hbw2 := bel_after hbw1 hb12
  have R3 := R2.of_block (hb2.block _ R2.lt)
  have D3 := D2.later hb2
  clear R2 D2 ISA hb2 d0 d1 d2 d3 d4 d5 d6 d7 d8 R1 al
  cases hra : refB h a
  · have AB : befB h a b = false := by unfold befB; rw [hk, hra]; rfl
    have r0 := R3.cell (i := 0) (by omega)
    have r1 := R3.cell (i := 1) (by omega)
    have r2 := R3.cell (i := 2) (by omega)
    have r3 := R3.cell (i := 3) (by omega)
    have r4 := R3.cell (i := 4) (by omega)
    have r5 := R3.cell (i := 5) (by omega)
    have r6 := R3.cell (i := 6) (by omega)
    have r7 := R3.cell (i := 7) (by omega)
    have fR := fun i => R3.frozen i
    have ltR := R3.lt
    have B9 : Below w.heap.size w ((((((((w2.setCell ⟨w.heap.size + 1, 0, none⟩ (.slice none 0 0)).setCell ⟨w.heap.size + 1, 1, none⟩ (.slice none 0 0)).setCell ⟨w.heap.size + 1, 2, none⟩ (.int .i64 0)).setCell ⟨w.heap.size + 1, 3, none⟩ (.int .i64 0)).setCell ⟨w.heap.size + 1, 4, none⟩ (.int .i64 0)).setCell ⟨w.heap.size + 1, 5, none⟩ (.bool false)).setCell ⟨w.heap.size + 1, 6, none⟩ (.int .i64 0)).setCell ⟨w.heap.size + 1, 7, none⟩ (.slice none 0 0)) := by
      repeat (refine Below.setCell ?_ (p := ⟨w.heap.size + 1, _, none⟩) (Nat.le_succ _) _)
      exact hbw2
    obtain ⟨d0, d1, d2, d3, d4, d5, d6, d7, d8, -⟩ := D3
    go_wp2
    exact bodyPost_ret (v := .tuple #[.agg #[.slice none 0 0, .slice none 0 0, .int .i64 0, .int .i64 0, .int .i64 0, .bool false, .int .i64 0, .slice none 0 0], .bool false]) (by simp [results, Try.results26, go_sem, r0, r1, r2, r3, r4, r5, r6, r7]) rfl ⟨⟨_, zero_ret AB (be_no AB)⟩, B9⟩
  have ISB := IS b _ hb12
  rw [refL_ob] at ISB
  obtain ⟨d0, d1, d2, d3, d4, d5, d6, d7, d8, -⟩ := id D3
  go_wp2_with fail
  refine ISB.mono ?_
  rintro e w3 ⟨rfl, hb3⟩
  have hb13 := bel_after hb12 hb3
  have hbw3 := bel_after hbw2 hb3
  have R4 := R3.of_block (hb3.block _ R3.lt)
  have D4 := D3.later hb3
  clear R3 D3 ISB IS hb3 d0 d1 d2 d3 d4 d5 d6 d7 d8
  cases hrb : refB h b
  · have AB : befB h a b = false := by unfold befB; rw [hk, hra, hrb]; rfl
    have r0 := R4.cell (i := 0) (by omega)
    have r1 := R4.cell (i := 1) (by omega)
    have r2 := R4.cell (i := 2) (by omega)
    have r3 := R4.cell (i := 3) (by omega)
    have r4 := R4.cell (i := 4) (by omega)
    have r5 := R4.cell (i := 5) (by omega)
    have r6 := R4.cell (i := 6) (by omega)
    have r7 := R4.cell (i := 7) (by omega)
    have fR := fun i => R4.frozen i
    have ltR := R4.lt
    have B9 : Below w.heap.size w ((((((((w3.setCell ⟨w.heap.size + 1, 0, none⟩ (.slice none 0 0)).setCell ⟨w.heap.size + 1, 1, none⟩ (.slice none 0 0)).setCell ⟨w.heap.size + 1, 2, none⟩ (.int .i64 0)).setCell ⟨w.heap.size + 1, 3, none⟩ (.int .i64 0)).setCell ⟨w.heap.size + 1, 4, none⟩ (.int .i64 0)).setCell ⟨w.heap.size + 1, 5, none⟩ (.bool false)).setCell ⟨w.heap.size + 1, 6, none⟩ (.int .i64 0)).setCell ⟨w.heap.size + 1, 7, none⟩ (.slice none 0 0)) := by
      repeat (refine Below.setCell ?_ (p := ⟨w.heap.size + 1, _, none⟩) (Nat.le_succ _) _)
      exact hbw3
    obtain ⟨d0, d1, d2, d3, d4, d5, d6, d7, d8, -⟩ := D4
    go_wp2
    exact bodyPost_ret (v := .tuple #[.agg #[.slice none 0 0, .slice none 0 0, .int .i64 0, .int .i64 0, .int .i64 0, .bool false, .int .i64 0, .slice none 0 0], .bool false]) (by simp [results, Try.results26, go_sem, r0, r1, r2, r3, r4, r5, r6, r7]) rfl ⟨⟨_, zero_ret AB (be_no AB)⟩, B9⟩
  have AB : befB h a b = true := by unfold befB; rw [hk, hra, hrb]; rfl
  have FIT := hfit hra hrb
  have RL : h.roots.length ≤ 20 := RG.2.2.2.2.2.1
  have ltg1 := q1.lt
  have ltg2 := q2.lt
  have CR := changeEach_any F A B a b f hF T g2 0 h.roots.length h.roots.length h.roots.length h.roots w3 (q2.later hb13) (.inr (by omega)) (by omega) (by omega) (by omega) (cell_later hbw3 hA) (cell_later hbw3 hB)
  rw [cW_all] at CR
  obtain ⟨d0, d1, d2, d3, d4, d5, d6, d7, d8, -⟩ := id D4
  clear hfit hra hrb hv
  go_wp2_with fail
  refine CR.mono ?_
  rintro e w4 ⟨rfl, RT, G4⟩
  have GR4 : Grew w3 w4 (fun z => z = g1 ∨ z = g2) := (Grew.grown G4).mono (fun z _ e => .inr (Option.some.inj e).symm)
  have q1' := (q1.later hb13).grown G4 (by simp; omega)
  have io3 := io.later hb13
  have sz13 := hb13.size
  have sz01 := hbw1.size
  have ltD4 := D4.lt
  clear CR d0 d1 d2 d3 d4 d5 d6 d7 d8 G4 q1 q3
  obtain ⟨ua, uc, e1, hc⟩ := intsI io3
  simp only [Value.slice.injEq, true_and] at e1
  obtain ⟨rfl, rfl⟩ := e1
  have D5 := D4.block (GR4.block _ D4.lt (by omega))
  obtain ⟨d0, d1, d2, d3, d4, d5, d6, d7, d8, -⟩ := id D5
  go_wp2
  go_loopw [46] (fun iv wr => ∃ k : Nat, iv = .int .i64 k ∧ k ≤ (obC h).length ∧ RI wr g1 (cW f h.words (fldI h.words ((obC h).take k))) 3200 ∧ RI wr g2 (h.roots.map f) h.roots.length ∧ Grew w3 wr (fun z => z = g1 ∨ z = g2)) (fun iv _ => (obC h).length - (intOf iv).toNat)
  case atStart => exact ⟨0, rfl, Nat.zero_le _, by rw [List.take_zero, cW_id (fun j _ e => by simp [fldI] at e)]; exact q1', RT, GR4⟩
  case round =>
    clear d0 d1 d2 d3 d4 d5 d6 d7 d8 q1' RT GR4 D5
    obtain ⟨k, rfl, hkl, RW, RT, GW⟩ := hrel
    have DW := D4.block (GW.block _ D4.lt (by omega))
    obtain ⟨d0, d1, d2, d3, d4, d5, d6, d7, d8, -⟩ := id DW
    by_cases hlt : k < (obC h).length
    · obtain ⟨b', o', e', hci⟩ := hc k hlt
      have far : b' < g1 := farO ⟨b', o', none⟩ _ _ (by rw [e']) (by omega)
      subst e'
      have ci := GW.cell hci (by omega)
      have hm := lget_mem (obC h) k hlt
      obtain ⟨o1, o2, o3⟩ := RG.1.obj hm
      have sz := size_of o3
      obtain ⟨n, hn⟩ := Int.eq_ofNat_of_zero_le sz.1
      have n60 : n ≤ 60 := by omega
      have hh := cw_head RG.1 f (m := (obC h).take k) (fun b hb => List.mem_of_mem_take hb) hm (k := 0) (by omega)
      rw [Nat.add_zero] at hh
      have hnx := cw_nx RG.1 f (m := (obC h).take k) (fun b hb => List.mem_of_mem_take hb) hm
      have hlW : (cW f h.words (fldI h.words ((obC h).take k))).length = 3200 := by rw [cW_length, HLN.out]
      have FA := fieldsAt_w g1 3200 (cW f h.words (fldI h.words ((obC h).take k))) ((obC h).getD k 0) n wr (fun i hi => by rw [Nat.zero_add]; exact RW.cell hi) hlW (Nat.le_refl _) o1 (by rw [hh, hn]) n60 (by rw [hnx]; exact o2)
      have NXT := cW_next RG.1 SO f hlt
      rw [hn] at NXT
      have hq2 : (obC h).getD k 0 + 4 + n ≤ 3200 := by unfold nx at o2; rw [hn] at o2; exact o2
      have CE := fun q c (hq : n = 0 ∨ q = (obC h).getD k 0 + 4) => changeEach_any F A B a b f hF T g1 q n 3200 c (cW f h.words (fldI h.words ((obC h).take k))) wr RW (by omega) (by omega) (by omega) (by omega) (GW.cell (cell_later hbw3 hA) (by omega)) (GW.cell (cell_later hbw3 hB) (by omega))
      have STEP : Hid (∀ q, (n = 0 ∨ q = (obC h).getD k 0 + 4) → cW f (cW f h.words (fldI h.words ((obC h).take k))) (rngB q n) = cW f h.words (fldI h.words ((obC h).take (k + 1)))) := fun q hq => by
        rcases hq with e | e
        · subst e
          rw [cW_zero, ← NXT]
          exact (cW_zero _ _ _).symm
        · subst e
          exact NXT
      have hsz := GW.size
      clear hci o1 o2 o3 sz hh hnx hlW NXT hn
      generalize (obC h).getD k 0 = at5 at *
      go_wp2_with fail
      refine FA.mono ?_
      rintro e wq ⟨⟨q, c, rfl, -, hq0⟩, hwq⟩
      obtain rfl := hwq.symm
      go_wp2_with fail
      refine (CE q c hq0).mono ?_
      rintro e w6 ⟨rfl, R6, G6⟩
      rw [STEP.out q hq0] at R6
      have RT6 := RT.grown G6 (by simp; omega)
      have GW6 := GW.trans' (Grew.grown G6) (fun z e => .inl (.inl (Option.some.inj e).symm))
      clear d0 d1 d2 d3 d4 d5 d6 d7 d8
      obtain ⟨d0, d1, d2, d3, d4, d5, d6, d7, d8, -⟩ := D4.block (GW6.block _ D4.lt (by omega))
      go_wp2
      exact ⟨⟨k + 1, by go_num, by omega, R6, RT6, GW6⟩, by simp [intOf]; omega⟩
    · obtain rfl : k = (obC h).length := by omega
      rw [List.take_length] at RW
      have RB := be_right hk f FIT
      have WSr : WS wr g1 0 (beW f h) := fun i hi => by rw [Nat.zero_add]; exact RW.cell hi
      have LB : (beW f h).length = 3200 := by rw [beW_length, HLN.out]
      have ior : IR wr (.slice oa (obC h).length oc) (ints (obC h)) := io3.keep' (fun ad n c e hp => GW.block _ (by have := farO ad n c e hp; omega) (by have := farO ad n c e hp; omega))
      have KO := keptObjects_own g1 0 3200 (.slice oa (obC h).length oc) (beW f h) (obC h) wr WSr LB (Nat.le_refl _) ior OL (fun x hx => ⟨(RB.1.obj hx).1, (RB.1.obj hx).2.1, objB_of (RB.1.obj hx).2.2 (RB.2.2.2.1 x hx)⟩)
      have hszr := GW.size
      have R5 := R4.of_block (GW.block _ R4.lt (by omega))
      have BLr : Below w.heap.size w wr := hbw3.trans (GW.below (by omega) (fun z _ e => by omega))
      go_wp2_with fail
      refine KO.mono ?_
      rintro e w5 ⟨⟨kv, rfl, ok⟩, hb5⟩
      obtain ⟨ao3, cc3, e3, -⟩ := IRs (IR_of_owns ok)
      subst e3
      have HKS : Hid (keptOf (beW f h) (obC h) = (beH f h).kept) := (rfl : _ = _)
      generalize keptOf (beW f h) (obC h) = ks at *
      have D6 := DW.later hb5
      have fz8 := fun j => D6.frozen j
      have D7 := D6.set8 (.slice ao3 ks.length cc3)
      have R7 := (R5.of_block (hb5.block _ R5.lt)).setOther (a := ⟨w1.heap.size, 8, none⟩) (by show w.heap.size + 1 ≠ w1.heap.size; omega) (.slice ao3 ks.length cc3)
      have W7 := (RW.later hb5).setOther (b := w1.heap.size) (i := 8) (by omega) (.slice ao3 ks.length cc3)
      have T7 := (RT.later hb5).setOther (b := w1.heap.size) (i := 8) (by omega) (.slice ao3 ks.length cc3)
      have O7 : (w5.setCell ⟨w1.heap.size, 8, none⟩ (.slice ao3 ks.length cc3)).ownsRow wr.heap.size 2 1 (.slice ao3 ks.length cc3) ks.length (icells ks) := own_blockY ok (fun b hb => Below.heap_setCell _ _ _ _ (by show b ≠ w1.heap.size; omega))
      have B7 := (bel_after BLr hb5).setCell (p := ⟨w1.heap.size, 8, none⟩) (by show w.heap.size ≤ w1.heap.size; omega) (.slice ao3 ks.length cc3)
      clear d0 d1 d2 d3 d4 d5 d6 d7 d8 KO
      obtain ⟨d0, d1, d2, d3, d4, d5, d6, d7, d8, -⟩ := id D7
      obtain ⟨k0, k1, k2, k3, k4, k5, k6, k7, k8, -⟩ := id D6
      have DH := fun W => draftHeap_any (some ⟨g1, 0, none⟩) (some ⟨g2, 0, none⟩) ao3 oa 3200 h.roots.length ks.length (obC h).length 3200 h.roots.length cc3 oc h.old h.eden h.surv h.hash h.flip W
      clear D6 R5 hc WSr ior RB BLr
      go_wp2_with fail
      refine (DH (w5.setCell ⟨w1.heap.size, 8, none⟩ (.slice ao3 ks.length cc3))).mono ?_
      generalize w5.setCell ⟨w1.heap.size, 8, none⟩ (.slice ao3 ks.length cc3) = w6 at *
      rintro e w7 ⟨rfl, hb7⟩
      have RA := R7.of_block (hb7.block _ R7.lt)
      have bel9 := bel_after B7 hb7
      have OKC : (#[.slice (some ⟨g1, 0, none⟩) 3200 3200, .slice (some ⟨g2, 0, none⟩) h.roots.length h.roots.length, .int .i64 h.old, .int .i64 h.eden, .int .i64 h.surv, .bool h.flip, .int .i64 h.hash, .slice ao3 ks.length cc3] : Array Value).all (·.oneCell') = true := by simp [Value.oneCell']
      clear d0 d1 d2 d3 d4 d5 d6 d7 d8 k0 k1 k2 k3 k4 k5 k6 k7 k8 fz8 D7
      go_wp2_with ((with_reducible refine store_box _ ?_ (.tmp 8) (.tmp 67) 26 ?_ 26 (w.heap.size + 1) 8 #[.slice (some ⟨g1, 0, none⟩) 3200 3200, .slice (some ⟨g2, 0, none⟩) h.roots.length h.roots.length, .int .i64 h.old, .int .i64 h.eden, .int .i64 h.surv, .bool h.flip, .int .i64 h.hash, .slice ao3 ks.length cc3] f0 ?_ ?_ RA ?_ ?_ OKC ?_); rfl; rfl; rfl; rfl; rfl; kernel_rfl; intro wA KA GA; have r0 : wA.cell? ⟨w.heap.size + 1, 0, none⟩ = some (.slice (some ⟨g1, 0, none⟩) 3200 3200) := KA.cell (i := 0) (by omega); have r1 : wA.cell? ⟨w.heap.size + 1, 1, none⟩ = some (.slice (some ⟨g2, 0, none⟩) h.roots.length h.roots.length) := KA.cell (i := 1) (by omega); have r2 : wA.cell? ⟨w.heap.size + 1, 2, none⟩ = some (.int .i64 h.old) := KA.cell (i := 2) (by omega); have r3 : wA.cell? ⟨w.heap.size + 1, 3, none⟩ = some (.int .i64 h.eden) := KA.cell (i := 3) (by omega); have r4 : wA.cell? ⟨w.heap.size + 1, 4, none⟩ = some (.int .i64 h.surv) := KA.cell (i := 4) (by omega); have r5 : wA.cell? ⟨w.heap.size + 1, 5, none⟩ = some (.bool h.flip) := KA.cell (i := 5) (by omega); have r6 : wA.cell? ⟨w.heap.size + 1, 6, none⟩ = some (.int .i64 h.hash) := KA.cell (i := 6) (by omega); have r7 : wA.cell? ⟨w.heap.size + 1, 7, none⟩ = some (.slice ao3 ks.length cc3) := KA.cell (i := 7) (by omega))
      have BA : Below w.heap.size w wA := Below.grown bel9 GA bel9.size (fun q hq => by cases hq; omega)
      have HFN : HN w.heap.size wA (.agg #[.slice (some ⟨g1, 0, none⟩) 3200 3200, .slice (some ⟨g2, 0, none⟩) h.roots.length h.roots.length, .int .i64 h.old, .int .i64 h.eden, .int .i64 h.surv, .bool h.flip, .int .i64 h.hash, .slice ao3 ks.length cc3]) (beC f h a b) := by
        rw [be_yes AB]
        have oA : wA.ownsRow wr.heap.size 2 1 (.slice ao3 ks.length cc3) (beH f h).kept.length (icells (beH f h).kept) := by
          rw [← HKS.out]
          exact (Grew.grown GA).own (own_later O7 hb7) (fun z e1 e2 => by have := ((own_later O7 hb7).lt z e1).1; have := Option.some.inj e2; omega)
        have q := HN.of_own3Y (h := beH f h) (B := w.heap.size) ((W7.later hb7).grown GA (by intro e; cases e; omega)) ((T7.later hb7).grown GA (by intro e; cases e; omega)) oA (by omega) (by omega) (by omega) (by omega) (by omega) (by omega)
        rw [show (beH f h).words.length = 3200 from LB, show (beH f h).roots.length = h.roots.length from List.length_map ..] at q
        exact q
      exact bodyPost_ret (v := .tuple #[.agg #[.slice (some ⟨g1, 0, none⟩) 3200 3200, .slice (some ⟨g2, 0, none⟩) h.roots.length h.roots.length, .int .i64 h.old, .int .i64 h.eden, .int .i64 h.surv, .bool h.flip, .int .i64 h.hash, .slice ao3 ks.length cc3], .bool true]) (by simp [results, Try.results26, go_sem, r0, r1, r2, r3, r4, r5, r6, r7]) rfl ⟨⟨_, by rw [AB], HFN⟩, BA⟩

end Go.Proofs.Ytaldfkfjmgkjbaa

/- Forward and Exchange of the program. -/
namespace Go.Proofs.Ytaldfkfjmgkjbaa
open Go.RowKit

theorem OS.keepY {w w' : World} {v : Value} {n B S : Nat} (h : Disk.OS w 2 1 v n) (hk : ∀ b, B ≤ b → b < S → w'.heap[b]? = w.heap[b]?) (hS : ∀ b, Disk.rowOf v n = some b → B ≤ b ∧ b < S) : Disk.OS w' 2 1 v n := by
  obtain ⟨ao, cap, rfl, h⟩ := h
  refine ⟨ao, cap, rfl, ?_⟩
  by_cases h0 : n = 0
  · exact .inl h0
  · obtain ⟨b, N, f, rfl, hN, hr⟩ := h.resolve_left h0
    have q := hS b (by unfold Disk.rowOf; rw [if_neg h0]; rfl)
    exact .inr ⟨b, N, f, rfl, hN, hr.of_block (hk b q.1 q.2)⟩
theorem IR.keepY {w w' : World} {v : Value} {l : List Int} (h : IR w v l) (hk : ∀ a n c, v = .slice (some a) n c → 0 < n → w'.heap[a.block]? = w.heap[a.block]?) : IR w' v l := by
  obtain ⟨ao, cap, rfl, hle, h⟩ := h
  refine ⟨ao, cap, rfl, hle, fun i hi => ?_⟩
  obtain ⟨b, o, rfl, hc⟩ := h i hi
  have q : w'.heap[b]? = w.heap[b]? := hk _ _ _ rfl (by omega)
  exact ⟨b, o, rfl, (World.cell?_of_block (w := w) (a := ⟨b, o + i, none⟩) q).trans hc⟩
theorem HN.keepY {B : Nat} {w w' : World} {v : Value} {h : Hp} (k : HN B w v h) (hk : ∀ b, B ≤ b → b < w.heap.size → w'.heap[b]? = w.heap[b]?) : HN B w' v h := by
  obtain ⟨v1, v2, v3, e, ⟨s1, s2, s3⟩, ⟨r1, r2, r3⟩, ⟨b1, b2, b3⟩, r⟩ := k.ex
  have row : ∀ {u : Value} {l : List Int}, IR w u l → Disk.OS w 2 1 u l.length → (∀ b, Disk.rowOf u l.length = some b → B ≤ b) → IR w' u l := fun {u} {l} a s c => by
    refine IR.keepY a fun ad n cp e hn => ?_
    subst e
    have el : n = l.length := by
      obtain ⟨ao, cap, e2, _⟩ := IRs a
      simp only [Value.slice.injEq] at e2
      exact e2.2.1
    have q : Disk.rowOf (.slice (some ad) n cp) l.length = some ad.block := by
      unfold Disk.rowOf
      rw [if_neg (by omega)]
      rfl
    exact hk _ (c _ q) (s.row _ q)
  exact ⟨v1, v2, v3, e, ⟨OS.keepY s1 (S := w.heap.size) hk (fun b q => ⟨b1 b q, s1.row b q⟩), OS.keepY s2 (S := w.heap.size) hk (fun b q => ⟨b2 b q, s2.row b q⟩), OS.keepY s3 (S := w.heap.size) hk (fun b q => ⟨b3 b q, s3.row b q⟩)⟩, ⟨row r1 s1 b1, row r2 s2 b2, row r3 s3 b3⟩, ⟨b1, b2, b3⟩, r⟩
theorem HN.lowY {B C : Nat} {w : World} {v : Value} {h : Hp} (k : HN B w v h) (hC : C ≤ B) : HN C w v h := by
  obtain ⟨v1, v2, v3, e, s, r, ⟨b1, b2, b3⟩, q⟩ := k.ex
  exact ⟨v1, v2, v3, e, s, r, ⟨fun b hb => Nat.le_trans hC (b1 b hb), fun b hb => Nat.le_trans hC (b2 b hb), fun b hb => Nat.le_trans hC (b3 b hb)⟩, q⟩


set_option maxRecDepth 100000 in
set_option maxHeartbeats 3200000 in
theorem implForward_c (v : Value) (h : Hp) (a b : Int) (w : World) (hv : HR w v h) (hwo : h.words.length ≤ 1000000000000) (hro : h.roots.length ≤ 1000000000000) (hke : h.kept.length ≤ 1000000000000) :
    Calls Try.prog 9 #[v, .int .i64 a, .int .i64 b] w fun e w' => (∃ u, e = .returned (.tuple #[u, .bool (befB h a b)]) ∧ HN w.heap.size w' u (beC (fwd a b) h a b)) ∧ Below w.heap.size w w' := by
  obtain ⟨v1, v2, v3, rfl, i1, i2, i3⟩ := id hv
  obtain ⟨a1, c1, rfl, -⟩ := IRs i1
  obtain ⟨a2, c2, rfl, -⟩ := IRs i2
  obtain ⟨a3, c3, rfl, -⟩ := IRs i3
  have hb0 : Below w.heap.size w ((((w.alloc (.cells #[.slice a1 h.words.length c1, .slice a2 h.roots.length c2, .int .i64 h.old, .int .i64 h.eden, .int .i64 h.surv, .bool h.flip, .int .i64 h.hash, .slice a3 h.kept.length c3] 26)).alloc (.cells #[.int .i64 a] 2)).alloc (.cells #[.int .i64 b] 2)).alloc (.cells #[.slice none 0 0, .slice none 0 0, .int .i64 0, .int .i64 0, .int .i64 0, .bool false, .int .i64 0, .slice none 0 0] 26)) := bel_after (bel_after (bel_one _ _) (bel_one _ _)) (bel_after (bel_one _ _) (bel_one _ _))
  have R0 := row_any (((w.alloc (.cells #[.slice a1 h.words.length c1, .slice a2 h.roots.length c2, .int .i64 h.old, .int .i64 h.eden, .int .i64 h.surv, .bool h.flip, .int .i64 h.hash, .slice a3 h.kept.length c3] 26)).alloc (.cells #[.int .i64 a] 2)).alloc (.cells #[.int .i64 b] 2)) #[.slice none 0 0, .slice none 0 0, .int .i64 0, .int .i64 0, .int .i64 0, .bool false, .int .i64 0, .slice none 0 0] 26
  have hA : ((((w.alloc (.cells #[.slice a1 h.words.length c1, .slice a2 h.roots.length c2, .int .i64 h.old, .int .i64 h.eden, .int .i64 h.surv, .bool h.flip, .int .i64 h.hash, .slice a3 h.kept.length c3] 26)).alloc (.cells #[.int .i64 a] 2)).alloc (.cells #[.int .i64 b] 2)).alloc (.cells #[.slice none 0 0, .slice none 0 0, .int .i64 0, .int .i64 0, .int .i64 0, .bool false, .int .i64 0, .slice none 0 0] 26)).cell? ⟨w.heap.size + 1, 0, none⟩ = some (.int .i64 a) := cell_later (bel_after (bel_one _ _) (bel_one _ _)) (cell_new (w.alloc (.cells #[.slice a1 h.words.length c1, .slice a2 h.roots.length c2, .int .i64 h.old, .int .i64 h.eden, .int .i64 h.surv, .bool h.flip, .int .i64 h.hash, .slice a3 h.kept.length c3] 26)) _ _ _ (by simp) 0 _ rfl)
  have hB : ((((w.alloc (.cells #[.slice a1 h.words.length c1, .slice a2 h.roots.length c2, .int .i64 h.old, .int .i64 h.eden, .int .i64 h.surv, .bool h.flip, .int .i64 h.hash, .slice a3 h.kept.length c3] 26)).alloc (.cells #[.int .i64 a] 2)).alloc (.cells #[.int .i64 b] 2)).alloc (.cells #[.slice none 0 0, .slice none 0 0, .int .i64 0, .int .i64 0, .int .i64 0, .bool false, .int .i64 0, .slice none 0 0] 26)).cell? ⟨w.heap.size + 1 + 1, 0, none⟩ = some (.int .i64 b) := cell_later (bel_one _ _) (cell_new ((w.alloc (.cells #[.slice a1 h.words.length c1, .slice a2 h.roots.length c2, .int .i64 h.old, .int .i64 h.eden, .int .i64 h.surv, .bool h.flip, .int .i64 h.hash, .slice a3 h.kept.length c3] 26)).alloc (.cells #[.int .i64 a] 2)) _ _ _ (by simp) 0 _ rfl)
  have C := become_c 27 (w.heap.size + 1) (w.heap.size + 1 + 1) a b (fwd a b) (by simp) (fun x W ha hb => fwd1_any a b x _ _ W ha hb) _ h _ (hv.later hb0) hwo hro hke hA hB (fun _ hb => fwd_fit hb)
  have sz0 : ((((w.alloc (.cells #[.slice a1 h.words.length c1, .slice a2 h.roots.length c2, .int .i64 h.old, .int .i64 h.eden, .int .i64 h.surv, .bool h.flip, .int .i64 h.hash, .slice a3 h.kept.length c3] 26)).alloc (.cells #[.int .i64 a] 2)).alloc (.cells #[.int .i64 b] 2)).alloc (.cells #[.slice none 0 0, .slice none 0 0, .int .i64 0, .int .i64 0, .int .i64 0, .bool false, .int .i64 0, .slice none 0 0] 26)).heap.size = w.heap.size + 1 + 1 + 1 + 1 := by simp
  have sz1 : (((w.alloc (.cells #[.slice a1 h.words.length c1, .slice a2 h.roots.length c2, .int .i64 h.old, .int .i64 h.eden, .int .i64 h.surv, .bool h.flip, .int .i64 h.hash, .slice a3 h.kept.length c3] 26)).alloc (.cells #[.int .i64 a] 2)).alloc (.cells #[.int .i64 b] 2)).heap.size = w.heap.size + 1 + 1 + 1 := by simp
  rw [sz1] at R0
  rw [sz0] at C
  clear i1 i2 i3
  generalize hr : beC (fwd a b) h a b = r at *
  generalize hb' : befB h a b = rb at *
  clear hr hb' hv
  go_enter Try.func9, Try.ntmps9
  go_wp2_with fail
  refine C.mono ?_
  rintro e w1 ⟨⟨u, rfl, hn⟩, hb1⟩
  have hbw1 := hb0.trans (hb1.mono (by omega))
  have R1 := R0.of_block (hb1.block _ (by omega))
  have hs1 : w.heap.size + 1 + 1 + 1 + 1 ≤ w1.heap.size := by have := hb1.size; omega
  obtain ⟨o1, k1, o2, k2, o3, k3, rfl, -⟩ := hn.out
  clear C R0 hA hB hb0 hb1 sz0 sz1
  have HNN : Hid (HN (w.heap.size + 1 + 1 + 1 + 1) w1 (.agg #[.slice o1 r.words.length k1, .slice o2 r.roots.length k2, .int .i64 r.old, .int .i64 r.eden, .int .i64 r.surv, .bool r.flip, .int .i64 r.hash, .slice o3 r.kept.length k3]) r) := hn
  clear hn
  generalize r.words.length = n1 at *
  generalize r.roots.length = n2 at *
  generalize r.kept.length = n3 at *
  generalize r.old = z1 at *
  generalize r.eden = z2 at *
  generalize r.surv = z3 at *
  generalize r.flip = z4 at *
  generalize r.hash = z5 at *
  have OKC : (#[.slice o1 n1 k1, .slice o2 n2 k2, .int .i64 z1, .int .i64 z2, .int .i64 z3, .bool z4, .int .i64 z5, .slice o3 n3 k3] : Array Value).all (·.oneCell') = true := by simp [Value.oneCell']
  go_wp2_with ((with_reducible refine store_box _ ?_ (.tmp 6) (.tmp 13) 26 ?_ 26 (w.heap.size + 1 + 1 + 1) 8 #[.slice o1 n1 k1, .slice o2 n2 k2, .int .i64 z1, .int .i64 z2, .int .i64 z3, .bool z4, .int .i64 z5, .slice o3 n3 k3] _ ?_ ?_ R1 ?_ ?_ OKC ?_); rfl; rfl; rfl; rfl; rfl; kernel_rfl; intro wA KA GA; have r0 : wA.cell? ⟨w.heap.size + 1 + 1 + 1, 0, none⟩ = some (.slice o1 n1 k1) := KA.cell (i := 0) (by omega); have r1 : wA.cell? ⟨w.heap.size + 1 + 1 + 1, 1, none⟩ = some (.slice o2 n2 k2) := KA.cell (i := 1) (by omega); have r2 : wA.cell? ⟨w.heap.size + 1 + 1 + 1, 2, none⟩ = some (.int .i64 z1) := KA.cell (i := 2) (by omega); have r3 : wA.cell? ⟨w.heap.size + 1 + 1 + 1, 3, none⟩ = some (.int .i64 z2) := KA.cell (i := 3) (by omega); have r4 : wA.cell? ⟨w.heap.size + 1 + 1 + 1, 4, none⟩ = some (.int .i64 z3) := KA.cell (i := 4) (by omega); have r5 : wA.cell? ⟨w.heap.size + 1 + 1 + 1, 5, none⟩ = some (.bool z4) := KA.cell (i := 5) (by omega); have r6 : wA.cell? ⟨w.heap.size + 1 + 1 + 1, 6, none⟩ = some (.int .i64 z5) := KA.cell (i := 6) (by omega); have r7 : wA.cell? ⟨w.heap.size + 1 + 1 + 1, 7, none⟩ = some (.slice o3 n3 k3) := KA.cell (i := 7) (by omega))
  have BA : Below w.heap.size w wA := Below.grown hbw1 GA hbw1.size (fun q hq => by cases hq; omega)
  have HF := (HNN.out.keepY (w' := wA) (fun z h1 h2 => GA.block z h2 (by intro e; cases e; omega))).lowY (C := w.heap.size) (by omega)
  exact bodyPost_ret (v := .tuple #[.agg #[.slice o1 n1 k1, .slice o2 n2 k2, .int .i64 z1, .int .i64 z2, .int .i64 z3, .bool z4, .int .i64 z5, .slice o3 n3 k3], .bool rb]) (by simp [results, Try.results9, go_sem, r0, r1, r2, r3, r4, r5, r6, r7]) rfl ⟨⟨_, rfl, HF⟩, BA⟩

set_option maxRecDepth 100000 in
set_option maxHeartbeats 3200000 in
theorem implExchange_c (v : Value) (h : Hp) (a b : Int) (w : World) (hv : HR w v h) (hwo : h.words.length ≤ 1000000000000) (hro : h.roots.length ≤ 1000000000000) (hke : h.kept.length ≤ 1000000000000) :
    Calls Try.prog 14 #[v, .int .i64 a, .int .i64 b] w fun e w' => (∃ u, e = .returned (.tuple #[u, .bool (befB h a b)]) ∧ HN w.heap.size w' u (beC (exg a b) h a b)) ∧ Below w.heap.size w w' := by
  obtain ⟨v1, v2, v3, rfl, i1, i2, i3⟩ := id hv
  obtain ⟨a1, c1, rfl, -⟩ := IRs i1
  obtain ⟨a2, c2, rfl, -⟩ := IRs i2
  obtain ⟨a3, c3, rfl, -⟩ := IRs i3
  have hb0 : Below w.heap.size w ((((w.alloc (.cells #[.slice a1 h.words.length c1, .slice a2 h.roots.length c2, .int .i64 h.old, .int .i64 h.eden, .int .i64 h.surv, .bool h.flip, .int .i64 h.hash, .slice a3 h.kept.length c3] 26)).alloc (.cells #[.int .i64 a] 2)).alloc (.cells #[.int .i64 b] 2)).alloc (.cells #[.slice none 0 0, .slice none 0 0, .int .i64 0, .int .i64 0, .int .i64 0, .bool false, .int .i64 0, .slice none 0 0] 26)) := bel_after (bel_after (bel_one _ _) (bel_one _ _)) (bel_after (bel_one _ _) (bel_one _ _))
  have R0 := row_any (((w.alloc (.cells #[.slice a1 h.words.length c1, .slice a2 h.roots.length c2, .int .i64 h.old, .int .i64 h.eden, .int .i64 h.surv, .bool h.flip, .int .i64 h.hash, .slice a3 h.kept.length c3] 26)).alloc (.cells #[.int .i64 a] 2)).alloc (.cells #[.int .i64 b] 2)) #[.slice none 0 0, .slice none 0 0, .int .i64 0, .int .i64 0, .int .i64 0, .bool false, .int .i64 0, .slice none 0 0] 26
  have hA : ((((w.alloc (.cells #[.slice a1 h.words.length c1, .slice a2 h.roots.length c2, .int .i64 h.old, .int .i64 h.eden, .int .i64 h.surv, .bool h.flip, .int .i64 h.hash, .slice a3 h.kept.length c3] 26)).alloc (.cells #[.int .i64 a] 2)).alloc (.cells #[.int .i64 b] 2)).alloc (.cells #[.slice none 0 0, .slice none 0 0, .int .i64 0, .int .i64 0, .int .i64 0, .bool false, .int .i64 0, .slice none 0 0] 26)).cell? ⟨w.heap.size + 1, 0, none⟩ = some (.int .i64 a) := cell_later (bel_after (bel_one _ _) (bel_one _ _)) (cell_new (w.alloc (.cells #[.slice a1 h.words.length c1, .slice a2 h.roots.length c2, .int .i64 h.old, .int .i64 h.eden, .int .i64 h.surv, .bool h.flip, .int .i64 h.hash, .slice a3 h.kept.length c3] 26)) _ _ _ (by simp) 0 _ rfl)
  have hB : ((((w.alloc (.cells #[.slice a1 h.words.length c1, .slice a2 h.roots.length c2, .int .i64 h.old, .int .i64 h.eden, .int .i64 h.surv, .bool h.flip, .int .i64 h.hash, .slice a3 h.kept.length c3] 26)).alloc (.cells #[.int .i64 a] 2)).alloc (.cells #[.int .i64 b] 2)).alloc (.cells #[.slice none 0 0, .slice none 0 0, .int .i64 0, .int .i64 0, .int .i64 0, .bool false, .int .i64 0, .slice none 0 0] 26)).cell? ⟨w.heap.size + 1 + 1, 0, none⟩ = some (.int .i64 b) := cell_later (bel_one _ _) (cell_new ((w.alloc (.cells #[.slice a1 h.words.length c1, .slice a2 h.roots.length c2, .int .i64 h.old, .int .i64 h.eden, .int .i64 h.surv, .bool h.flip, .int .i64 h.hash, .slice a3 h.kept.length c3] 26)).alloc (.cells #[.int .i64 a] 2)) _ _ _ (by simp) 0 _ rfl)
  have C := become_c 28 (w.heap.size + 1) (w.heap.size + 1 + 1) a b (exg a b) (by simp) (fun x W ha hb => exg1_any a b x _ _ W ha hb) _ h _ (hv.later hb0) hwo hro hke hA hB (fun ha hb => exg_fit ha hb)
  have sz0 : ((((w.alloc (.cells #[.slice a1 h.words.length c1, .slice a2 h.roots.length c2, .int .i64 h.old, .int .i64 h.eden, .int .i64 h.surv, .bool h.flip, .int .i64 h.hash, .slice a3 h.kept.length c3] 26)).alloc (.cells #[.int .i64 a] 2)).alloc (.cells #[.int .i64 b] 2)).alloc (.cells #[.slice none 0 0, .slice none 0 0, .int .i64 0, .int .i64 0, .int .i64 0, .bool false, .int .i64 0, .slice none 0 0] 26)).heap.size = w.heap.size + 1 + 1 + 1 + 1 := by simp
  have sz1 : (((w.alloc (.cells #[.slice a1 h.words.length c1, .slice a2 h.roots.length c2, .int .i64 h.old, .int .i64 h.eden, .int .i64 h.surv, .bool h.flip, .int .i64 h.hash, .slice a3 h.kept.length c3] 26)).alloc (.cells #[.int .i64 a] 2)).alloc (.cells #[.int .i64 b] 2)).heap.size = w.heap.size + 1 + 1 + 1 := by simp
  rw [sz1] at R0
  rw [sz0] at C
  clear i1 i2 i3
  generalize hr : beC (exg a b) h a b = r at *
  generalize hb' : befB h a b = rb at *
  clear hr hb' hv
  go_enter Try.func14, Try.ntmps14
  go_wp2_with fail
  refine C.mono ?_
  rintro e w1 ⟨⟨u, rfl, hn⟩, hb1⟩
  have hbw1 := hb0.trans (hb1.mono (by omega))
  have R1 := R0.of_block (hb1.block _ (by omega))
  have hs1 : w.heap.size + 1 + 1 + 1 + 1 ≤ w1.heap.size := by have := hb1.size; omega
  obtain ⟨o1, k1, o2, k2, o3, k3, rfl, -⟩ := hn.out
  clear C R0 hA hB hb0 hb1 sz0 sz1
  have HNN : Hid (HN (w.heap.size + 1 + 1 + 1 + 1) w1 (.agg #[.slice o1 r.words.length k1, .slice o2 r.roots.length k2, .int .i64 r.old, .int .i64 r.eden, .int .i64 r.surv, .bool r.flip, .int .i64 r.hash, .slice o3 r.kept.length k3]) r) := hn
  clear hn
  generalize r.words.length = n1 at *
  generalize r.roots.length = n2 at *
  generalize r.kept.length = n3 at *
  generalize r.old = z1 at *
  generalize r.eden = z2 at *
  generalize r.surv = z3 at *
  generalize r.flip = z4 at *
  generalize r.hash = z5 at *
  have OKC : (#[.slice o1 n1 k1, .slice o2 n2 k2, .int .i64 z1, .int .i64 z2, .int .i64 z3, .bool z4, .int .i64 z5, .slice o3 n3 k3] : Array Value).all (·.oneCell') = true := by simp [Value.oneCell']
  go_wp2_with ((with_reducible refine store_box _ ?_ (.tmp 6) (.tmp 13) 26 ?_ 26 (w.heap.size + 1 + 1 + 1) 8 #[.slice o1 n1 k1, .slice o2 n2 k2, .int .i64 z1, .int .i64 z2, .int .i64 z3, .bool z4, .int .i64 z5, .slice o3 n3 k3] _ ?_ ?_ R1 ?_ ?_ OKC ?_); rfl; rfl; rfl; rfl; rfl; kernel_rfl; intro wA KA GA; have r0 : wA.cell? ⟨w.heap.size + 1 + 1 + 1, 0, none⟩ = some (.slice o1 n1 k1) := KA.cell (i := 0) (by omega); have r1 : wA.cell? ⟨w.heap.size + 1 + 1 + 1, 1, none⟩ = some (.slice o2 n2 k2) := KA.cell (i := 1) (by omega); have r2 : wA.cell? ⟨w.heap.size + 1 + 1 + 1, 2, none⟩ = some (.int .i64 z1) := KA.cell (i := 2) (by omega); have r3 : wA.cell? ⟨w.heap.size + 1 + 1 + 1, 3, none⟩ = some (.int .i64 z2) := KA.cell (i := 3) (by omega); have r4 : wA.cell? ⟨w.heap.size + 1 + 1 + 1, 4, none⟩ = some (.int .i64 z3) := KA.cell (i := 4) (by omega); have r5 : wA.cell? ⟨w.heap.size + 1 + 1 + 1, 5, none⟩ = some (.bool z4) := KA.cell (i := 5) (by omega); have r6 : wA.cell? ⟨w.heap.size + 1 + 1 + 1, 6, none⟩ = some (.int .i64 z5) := KA.cell (i := 6) (by omega); have r7 : wA.cell? ⟨w.heap.size + 1 + 1 + 1, 7, none⟩ = some (.slice o3 n3 k3) := KA.cell (i := 7) (by omega))
  have BA : Below w.heap.size w wA := Below.grown hbw1 GA hbw1.size (fun q hq => by cases hq; omega)
  have HF := (HNN.out.keepY (w' := wA) (fun z h1 h2 => GA.block z h2 (by intro e; cases e; omega))).lowY (C := w.heap.size) (by omega)
  exact bodyPost_ret (v := .tuple #[.agg #[.slice o1 n1 k1, .slice o2 n2 k2, .int .i64 z1, .int .i64 z2, .int .i64 z3, .bool z4, .int .i64 z5, .slice o3 n3 k3], .bool rb]) (by simp [results, Try.results14, go_sem, r0, r1, r2, r3, r4, r5, r6, r7]) rfl ⟨⟨_, rfl, HF⟩, BA⟩

end Go.Proofs.Ytaldfkfjmgkjbaa
