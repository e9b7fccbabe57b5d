/- The walk of the law on NewHeap. -/
import Derived.Test.YtijamnfjliapdaaZHLawM
import Derived.Test.YtijamnfjliapdaaZHLaws
namespace Go.Proofs.Ytijamnfjliapdaa
open Go.RowKit

theorem HN.out {B : Nat} {w : World} {v : Value} {h : Hp} (k : HN B w v h) : ∃ a1 c1 a2 c2 a3 c3, v = .agg #[.slice a1 h.words.length c1, .slice a2 h.roots.length c2, .int .i64 h.old, .int .i64 h.eden, .int .i64 h.surv, .bool h.flip, .int .i64 h.hash, .slice a3 h.kept.length c3] ∧
    (Disk.OS w 2 1 (.slice a1 h.words.length c1) h.words.length ∧ Disk.OS w 2 1 (.slice a2 h.roots.length c2) h.roots.length ∧ Disk.OS w 2 1 (.slice a3 h.kept.length c3) h.kept.length) ∧ (IR w (.slice a1 h.words.length c1) h.words ∧ IR w (.slice a2 h.roots.length c2) h.roots ∧ IR w (.slice a3 h.kept.length c3) h.kept) ∧
    ((∀ b, Disk.rowOf (.slice a1 h.words.length c1) h.words.length = some b → B ≤ b) ∧ (∀ b, Disk.rowOf (.slice a2 h.roots.length c2) h.roots.length = some b → B ≤ b) ∧ (∀ b, Disk.rowOf (.slice a3 h.kept.length c3) h.kept.length = some b → B ≤ b)) ∧
    (∀ b, Disk.rowOf (.slice a1 h.words.length c1) h.words.length = some b → Disk.rowOf (.slice a2 h.roots.length c2) h.roots.length ≠ some b) ∧ (∀ b, Disk.rowOf (.slice a1 h.words.length c1) h.words.length = some b → Disk.rowOf (.slice a3 h.kept.length c3) h.kept.length ≠ some b) ∧ (∀ b, Disk.rowOf (.slice a2 h.roots.length c2) h.roots.length = some b → Disk.rowOf (.slice a3 h.kept.length c3) h.kept.length ≠ some b) := by
  obtain ⟨v1, v2, v3, e, os, ir, rest⟩ := k.ex
  obtain ⟨a1, c1, rfl, _⟩ := IRs ir.1
  obtain ⟨a2, c2, rfl, _⟩ := IRs ir.2.1
  obtain ⟨a3, c3, rfl, _⟩ := IRs ir.2.2
  exact ⟨a1, c1, a2, c2, a3, c3, e, os, ir, rest⟩
theorem IR.keep {w w' : World} {v : Value} {l : List Int} (h : IR w v l) (hk : ∀ a n c, v = .slice (some a) n c → 0 < n → w'.heap[a.block]? = w.heap[a.block]?) : IR w' v l := by
  obtain ⟨ao, cap, rfl, hle, h⟩ := h
  refine ⟨ao, cap, rfl, hle, fun i hi => ?_⟩
  obtain ⟨b, o, rfl, hc⟩ := h i hi
  have q : w'.heap[b]? = w.heap[b]? := hk _ _ _ rfl (by omega)
  exact ⟨b, o, rfl, (World.cell?_of_block (w := w) (a := ⟨b, o + i, none⟩) q).trans hc⟩
theorem Bx.keep {w w' : World} {N : Nat} {v1 v2 v3 : Value} {h : Hp} (k : Bx w N v1 v2 v3 h) (hk : w'.heap[N]? = w.heap[N]?) : Bx w' N v1 v2 v3 h := by
  have e : ∀ o v, w.cell? ⟨N, o, none⟩ = some v → w'.cell? ⟨N, o, none⟩ = some v := fun o v q => (World.cell?_of_block (w := w) hk).trans q
  exact ⟨e _ _ k.c0, e _ _ k.c1, e _ _ k.c2, e _ _ k.c3, e _ _ k.c4, e _ _ k.c5, e _ _ k.c6, e _ _ k.c7⟩

set_option maxRecDepth 100000 in
set_option maxHeartbeats 1600000 in
theorem lawNewHeap_any (w : World) : Calls Try.prog 4 #[] w fun e w' => e = .returned (.bool true) ∧ Below w.heap.size w w' := by
  have EQ := fun v u W hv hu => eqHeap_any v u newH W hv hu (by rw [show newH.words.length = 3200 from newW_length]; omega) (Nat.zero_le _) (Nat.zero_le _)
  have MK := fun v1 v2 v3 W o1 o2 o3 i1 i2 i3 d1 d2 d3 => markHeap_any v1 v2 v3 newH 1 W o1 o2 o3 i1 i2 i3 d1 d2 d3 (by omega) (by omega) (by rw [show newH.words.length = 3200 from newW_length]; omega) (Nat.zero_le _) (Nat.zero_le _)
  have HD := fun v1 v2 v3 W m1 m2 m3 => heldHeap_any v1 v2 v3 newH 1 W m1 m2 m3 (by omega) (by omega) (by rw [show newH.words.length = 3200 from newW_length]; omega) (Nat.zero_le _) (Nat.zero_le _)
  have SN := specNewHeap_any
  have IN := implNewHeap_any
  have kk : ¬ (1 : Int) + newH.words.length + newH.roots.length + newH.kept.length < 0 := by omega
  generalize hZ : (1 : Int) + newH.words.length + newH.roots.length + newH.kept.length = zz at *
  clear hZ
  generalize newH = h at *
  go_enter Try.func4, Try.ntmps4
  go_wp2_with fail
  refine (SN _).mono ?_
  rintro e w1 ⟨⟨s, rfl, hs⟩, hb1⟩
  obtain ⟨a1, c1, a2, c2, a3, c3, rfl, so, sr, sB, sd⟩ := hs.out
  have al1 := bel_one w1 (.cells #[.slice a1 h.words.length c1, .slice a2 h.roots.length c2, .int .i64 h.old, .int .i64 h.eden, .int .i64 h.surv, .bool h.flip, .int .i64 h.hash, .slice a3 h.kept.length c3] 27)
  have X1 := Bx.new w1 (.slice a1 h.words.length c1) (.slice a2 h.roots.length c2) (.slice a3 h.kept.length c3) h 27
  have hbA := bel_after hb1 al1
  have hrs := hs.hr.later al1
  have hrw1 := hs.hr
  clear so sr sB sd hs
  go_wp2_with fail
  refine (IN _).mono ?_
  rintro e w2 ⟨⟨g, rfl, hg⟩, hb2⟩
  obtain ⟨b1, e1, b2, e2, b3, e3, rfl, go, gr, gB, g12, g13, g23⟩ := hg.out
  have al2 := bel_one w2 (.cells #[.slice b1 h.words.length e1, .slice b2 h.roots.length e2, .int .i64 h.old, .int .i64 h.eden, .int .i64 h.surv, .bool h.flip, .int .i64 h.hash, .slice b3 h.kept.length e3] 27)
  have Y2 := Bx.new w2 (.slice b1 h.words.length e1) (.slice b2 h.roots.length e2) (.slice b3 h.kept.length e3) h 27
  have hb2' := bel_after hb2 al2
  have X2 := X1.later hb2'
  have hrs2 := hrs.later hb2'
  have hrg := hg.hr.later al2
  have hbB := bel_after hbA hb2'
  have q1 := go.1.row
  have q2 := go.2.1.row
  have q3 := go.2.2.row
  have go1 := go.1.later al2
  have go2 := go.2.1.later al2
  have go3 := go.2.2.later al2
  have gr1 := gr.1.later al2
  have gr2 := gr.2.1.later al2
  have gr3 := gr.2.2.later al2
  have s12 : (w1.alloc (.cells #[.slice a1 h.words.length c1, .slice a2 h.roots.length c2, .int .i64 h.old, .int .i64 h.eden, .int .i64 h.surv, .bool h.flip, .int .i64 h.hash, .slice a3 h.kept.length c3] 27)).heap.size = w1.heap.size + 1 := by simp
  rw [s12] at gB
  have S12 : Hid (w1.heap.size + 1 ≤ w2.heap.size) := (by have := hb2.size; rw [s12] at this; exact this : w1.heap.size + 1 ≤ w2.heap.size)
  obtain ⟨x0, x1, x2, x3, x4, x5, x6, x7⟩ := id X2
  have ltx : w1.heap.size < (w2.alloc (.cells #[.slice b1 h.words.length e1, .slice b2 h.roots.length e2, .int .i64 h.old, .int .i64 h.eden, .int .i64 h.surv, .bool h.flip, .int .i64 h.hash, .slice b3 h.kept.length e3] 27)).heap.size := World.block_lt_of_cell? _ _ x0
  have lt12 : w1.heap.size < w2.heap.size := by have := S12.out; omega
  clear s12 hg go gr hrs X1 ltx
  go_wp2_with fail
  refine (EQ _ _ _ hrg hrs2).mono ?_
  rintro e w3 ⟨rfl, hb3⟩
  have X3 := X2.later hb3
  have Y3 := Y2.later hb3
  have hrs3 := hrs2.later hb3
  have hbC := bel_after hbB hb3
  have M := MK _ _ _ _ (go1.later hb3) (go2.later hb3) (go3.later hb3) (gr1.later hb3) (gr2.later hb3) (gr3.later hb3) g12 g13 g23
  clear x0 x1 x2 x3 x4 x5 x6 x7
  obtain ⟨y0, y1, y2, y3, y4, y5, y6, y7⟩ := id Y3
  have sz3 : w2.heap.size < w3.heap.size := World.block_lt_of_cell? _ _ y0
  clear X2 Y2 hrs2 hrg
  go_wp2_with fail
  refine M.mono ?_
  rintro e w4 ⟨rfl, T, m1, m2, m3⟩
  have hbT : Below (w1.heap.size + 1) w3 w4 := T.below (by have := S12.out; omega) gB.1 gB.2.1 gB.2.2
  have X4 := X3.below hbT
  have hi := T.high (B := w2.heap.size) q1 q2 q3
  have Y4 := Y3.keep (hi w2.heap.size (Nat.le_refl _) sz3)
  have sz4 := T.size
  have hbD : Below w.heap.size w w4 := hbC.trans (hbT.mono (by have := hbA.size; simp at this; omega))
  have B14 : Below w1.heap.size w1 w4 := (bel_after (bel_after al1 hb2') hb3).trans (hbT.mono (by have := S12.out; omega))
  obtain ⟨y0', y1', y2', y3', y4', y5', y6', y7'⟩ := id Y4
  have lt4 : w2.heap.size < w4.heap.size := by omega
  clear M X3 Y3 hrs3 y0 y1 y2 y3 y4 y5 y6 y7 hbC hbB hi T
  go_wp2_with fail
  refine (HD _ _ _ _ m1 m2 m3).mono ?_
  rintro e w5 ⟨rfl, hb5⟩
  have hbE := bel_after hbD hb5
  have X5 := X4.later hb5
  have Y5 := Y4.later hb5
  have n1 := m1.later hb5
  have n2 := m2.later hb5
  have n3 := m3.later hb5
  have B15 := bel_after B14 hb5
  have s5 := hb5.size
  have tz : (zz != zz) = false := by simp
  clear X4 Y4 m1 m2 m3 y0' y1' y2' y3' y4' y5' y6' y7'
  go_wp2_with fail
  refine (IN _).mono ?_
  rintro e w6 ⟨⟨hh, rfl, hk⟩, hb6⟩
  obtain ⟨f1, g1, f2, g2, f3, g3, rfl, -⟩ := hk.out
  have al6 := bel_one w6 (.cells #[.slice f1 h.words.length g1, .slice f2 h.roots.length g2, .int .i64 h.old, .int .i64 h.eden, .int .i64 h.surv, .bool h.flip, .int .i64 h.hash, .slice f3 h.kept.length g3] 27)
  have hb6' := bel_after hb6 al6
  have X6 := X5.later hb6'
  have Y6 := Y5.later hb6'
  have p1 := n1.later hb6'
  have p2 := n2.later hb6'
  have p3 := n3.later hb6'
  have hrk := hk.hr.later al6
  have hrS := hrw1.later (bel_after B15 hb6')
  have hbF := bel_after hbE hb6'
  obtain ⟨x0, x1, x2, x3, x4, x5, x6, x7⟩ := id X6
  have s6 := hb6.size
  have ltA : w1.heap.size < w6.heap.size := by omega
  have ltB : w2.heap.size < w6.heap.size := by omega
  clear X5 Y5 n1 n2 n3
  go_wp2_with fail
  refine (EQ _ _ _ hrk hrS).mono ?_
  rintro e w7 ⟨rfl, hb7⟩
  have hbG := bel_after hbF hb7
  clear x0 x1 x2 x3 x4 x5 x6 x7
  obtain ⟨y0, y1, y2, y3, y4, y5, y6, y7⟩ := id (Y6.later hb7)
  go_wp2_with fail
  refine (HD _ _ _ _ (p1.later hb7) (p2.later hb7) (p3.later hb7)).mono ?_
  rintro e w8 ⟨rfl, hb8⟩
  go_wp2
  go_ret
  exact ⟨rfl, bel_after hbG hb8⟩

end Go.Proofs.Ytijamnfjliapdaa
