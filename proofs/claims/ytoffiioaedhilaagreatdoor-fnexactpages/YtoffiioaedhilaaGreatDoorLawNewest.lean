/- The law on Newest, walked. -/
import Derived.Test.YtoffiioaedhilaaGreatDoorImplNew
import Derived.Test.YtoffiioaedhilaaGreatDoorIMark
import Derived.Test.YtoffiioaedhilaaGreatDoorDBase
namespace Go.Proofs.YtoffiioaedhilaaGreatDoor
open Go.RowKit

theorem newest_len (ss : List ByteArray) (ws : List Disk.Wr) : (newestR ss ws).2.length ≤ 30 := by
  have key : ∀ t, (orNone (superR ss t)).2.length ≤ 30 := fun t => by
    rw [superR_or]
    split
    · exact or_len t
    · simp
  unfold newestR
  split
  · unfold newR
    split
    · exact key _
    · exact key _
  · simp
theorem grown_bel {B : Nat} {w a b : World} {row : Option Nat} (h : Below B w a) (g : a.grownBy b row) (hB : B ≤ a.heap.size) (hr : ∀ k, row = some k → B ≤ k) : Below B w b :=
  h.trans ⟨g.os, g.tape, g.output, g.size, fun k hk => g.block k (by omega) (fun e => by have := hr k e.symm; omega)⟩
theorem B2_grown {w w' : World} {b : Nat} {u v : Value} {row : Option Nat} (h : Disk.B2 w b u v) (g : w.grownBy w' row) (hr : ∀ k, row = some k → b < k) : Disk.B2 w' b u v :=
  ⟨g.cell h.1 (fun e => by have := hr b e.symm; omega), g.cell h.2 (fun e => by have := hr b e.symm; omega)⟩
theorem own_two {w w' : World} {B e size n lo hi : Nat} {v : Value} {xs : List Value} {r1 r2 : Option Nat} (h : w.ownsRow B e size v n xs) (T : Disk.Two w w' r1 r2) (hr1 : ∀ b, r1 = some b → lo ≤ b ∧ b < hi) (hr2 : ∀ b, r2 = some b → lo ≤ b ∧ b < hi) (hd : hi ≤ B) : w'.ownsRow B e size v n xs := by
  obtain ⟨hl, h⟩ := h
  refine ⟨hl, ?_⟩
  rcases h with h | ⟨g, cap, cur, hv, hB, hh, h1, h2, h3, h4⟩
  · exact .inl h
  · refine .inr ⟨g, cap, cur, hv, hB, ?_, h1, h2, h3, h4⟩
    have hlt : g < w.heap.size := by
      rcases Nat.lt_or_ge g w.heap.size with h' | h'
      · exact h'
      · rw [Array.getElem?_eq_none h'] at hh; cases hh
    rw [T.block g hlt (Disk.in_ne hr1 (by omega)) (Disk.in_ne hr2 (by omega))]
    exact hh
theorem IR.two {w w' : World} {v : Value} {l : List Int} {B lo hi : Nat} {r1 r2 : Option Nat} (h : IR w v l) (T : Disk.Two w w' r1 r2) (hr1 : ∀ b, r1 = some b → lo ≤ b ∧ b < hi) (hr2 : ∀ b, r2 = some b → lo ≤ b ∧ b < hi) (hB : ∀ a n c, v = .slice (some a) n c → 0 < n → a.block < B) (hd : B ≤ lo) : IR w' v l := by
  obtain ⟨ao, cap, rfl, hle, h⟩ := h
  refine ⟨ao, cap, rfl, hle, fun i hi => ?_⟩
  obtain ⟨b, o, rfl, hc⟩ := h i hi
  have := hB _ _ _ rfl (by omega)
  simp at this
  exact ⟨b, o, rfl, T.cell hc (Disk.in_ne hr1 (.inl (by omega))) (Disk.in_ne hr2 (.inl (by omega)))⟩

set_option maxRecDepth 100000 in
set_option maxHeartbeats 2000000 in
theorem lawNewest_any (v1 v2 : Value) (ss : List ByteArray) (ws : List Disk.Wr) (a0 a1 a2 a3 : Addr) (w : World) (hv1 : Disk.SR w v1 ss) (hv2 : Disk.WR w v2 ws) (h1 : ss.length ≤ 10000000000000) (h2 : ws.length ≤ 10000000000000) (hC : Ctx a0 a1 a2 a3 w) :
    Calls Tryz.prog 3 #[.agg #[v1, v2]] w fun e w' => e = .returned (.bool true) ∧ Below w.heap.size w w' := by
  have S := fun v1 v2 w h h' => specNewest_any v1 v2 ss ws w h h' h1 h2 (ss_of h)
  have I := fun v1 v2 w h h' hc hC => implNewest_any v1 v2 ss ws a0 a1 a2 a3 w h h' h1 h2 hc hC
  have L := newest_len ss ws
  generalize newestR ss ws = r at S I L
  obtain ⟨ne, nl⟩ := r
  simp only at S I L
  have hb0 := bel_one w (.cells #[v1, v2] 25)
  have k0 := Disk.B2.new w 25 v1 v2
  go_enter Tryz.func3, Tryz.ntmps3
  go_wp2_with (fail)
  refine (Disk.szDisk_any _ _ ss ws _ _ (hv1.later hb0) (hv2.later hb0) (by omega) (by omega)).mono ?_
  rintro e w1 ⟨⟨y, rfl⟩, hb1⟩
  have hbw1 := bel_after hb0 hb1
  have k1 := k0.later hb1
  obtain ⟨c0, c1⟩ := k1
  clear k0
  by_cases hy : y < 0
  · go_wp2
    go_ret
    exact ⟨rfl, hbw1⟩
  go_wp2_with (fail)
  refine (Disk.toDisk_any _ _ ss ws _ (hv1.later hbw1) (hv2.later hbw1) h1 h2).mono ?_
  rintro e w2 ⟨p1, p2, rfl, hP, hb2⟩
  have hbw2 := bel_after hbw1 hb2
  have k2 : Disk.B2 w2 w.heap.size v1 v2 := Disk.B2.later ⟨c0, c1⟩ hb2
  clear c0 c1 hb1 hbw1
  go_wp2_with (fail)
  refine (S _ _ _ hP.2.2.1 hP.2.2.2.1).mono ?_
  rintro e w3 ⟨⟨wv, rfl, hW3⟩, hb3⟩
  have hWlt := hW3.lt
  have hbw3 := bel_after hbw2 hb3
  have k3 := k2.later hb3
  have z3 : w.heap.size < w3.heap.size := k3.lt
  obtain ⟨c0, c1⟩ := k3
  clear hbw2 hP k2 hb3 hb2
  go_wp2_with (fail)
  refine (Disk.toDisk_cap _ _ ss ws _ (hv1.later hbw3) (hv2.later hbw3) h1 h2).mono ?_
  rintro e w4 ⟨q1, q2, rfl, hcq, hQ, hb4⟩
  have Q4 := Disk.DK.of hQ
  have k4 : Disk.B2 w4 w.heap.size v1 v2 := Disk.B2.later ⟨c0, c1⟩ hb4
  have W4 := hW3.later hb4
  have z4 := hb4.size
  have hbw4 := bel_after hbw3 hb4
  obtain ⟨qa, qn, qc, rfl⟩ := Q4.s1
  obtain ⟨ra, rn, rc, rfl⟩ := Q4.s2
  clear hQ hb4 c0 c1 hbw3 hW3
  have hB5 := bel_one w4 (.cells #[.slice qa qn qc, .slice ra rn rc] 32)
  have Q5 := Q4.later hB5
  have hbw5 := bel_after hbw4 hB5
  have y4 : w.heap.size < w4.heap.size := k4.lt
  obtain ⟨c0, c1⟩ := k4
  go_wp2_with (fail)
  refine (I _ _ _ Q5.sr Q5.wr hcq (hC.later hbw5)).mono ?_
  rintro e w5 ⟨⟨gv, rfl, hG5⟩, hb5⟩
  simp only [World.size_alloc] at hG5
  have Q6 := Q5.later hb5
  have W6 := (W4.later hB5).later hb5
  have k6 : Disk.B2 w5 w.heap.size v1 v2 := (Disk.B2.later ⟨c0, c1⟩ hB5).later hb5
  have KX6 := (Disk.B2.new w4 32 (.slice qa qn qc) (.slice ra rn rc)).later hb5
  have z5 : w4.heap.size + 1 ≤ w5.heap.size := by have := hb5.size; simpa using this
  have hbw6 := bel_after hbw5 hb5
  have HCQ : Hid (∃ ao, Value.slice qa qn qc = .slice ao ss.length ss.length) := hcq
  clear c0 c1 hb5 hB5 Q5 Q4 W4 hbw4 hbw5 hcq
  go_wp2_with (fail)
  refine (eqInt64S_any _ _ nl nl _ (IR_of_owns hG5) W6 (by omega) (by omega)).mono ?_
  rintro e w6 ⟨rfl, hb6⟩
  have G7 := own_later hG5 hb6
  have Q7 := Q6.later hb6
  have W7 := W6.later hb6
  have k7 := k6.later hb6
  have KX7 := KX6.later hb6
  have z6 := hb6.size
  have hbw7 := bel_after hbw6 hb6
  clear hG5 Q6 W6 k6 KX6 hb6 hbw6
  obtain ⟨c0, c1⟩ := k7
  obtain ⟨x0, x1⟩ := KX7
  have a8d : Disk.SR w6.drew v1 ss := hv1.later hbw7.drew
  have b8d : Disk.WR w6.drew v2 ws := hv2.later hbw7.drew
  have Q8d : Disk.DK w3.heap.size w4.heap.size w6.drew (.slice qa qn qc) (.slice ra rn rc) ss ws := Q7.dr 1
  go_wp2_with (fail)
  go_region_with (first | (go_at_call 10; refine (Disk.toDisk_any _ _ ss ws _ a8d b8d h1 h2).mono ?_; rintro e w7 ⟨u1, u2, rfl, hU, hb7⟩; have Q8e := Q8d.later hb7; have m2 := cell_later hb7 x0; have m3 := cell_later hb7 x1) | (go_at_call 13; refine (Disk.eqDisk_any _ _ ss ss ws ws _ (Q8e.dr' (by omega) (by omega)) (hU.dr (by omega) (by omega))).mono ?_; rintro e w8 ⟨rfl, hb8⟩))
  all_goals
    have B8 : Below w6.heap.size w6 w8 := Disk.bel_then ((Below.refl w6.heap.size w6).drew.trans hb7) hb7.size hb8
    have G9 := own_later G7 B8
    have Q9 := Q7.later B8
    have W9 := W7.later B8
    have k9 : Disk.B2 w8 w.heap.size v1 v2 := Disk.B2.later ⟨c0, c1⟩ B8
    have KX9 : Disk.B2 w8 w4.heap.size (.slice qa qn qc) (.slice ra rn rc) := Disk.B2.later ⟨x0, x1⟩ B8
    have hbw9 := bel_after hbw7 B8
    have s9 := B8.size
    clear G7 Q7 W7 hbw7 x0 x1 c0 c1 a8d b8d Q8d Q8e m2 m3 hb7 hb8 hU B8
    obtain ⟨x0, x1⟩ := KX9
    go_wp2_with (fail)
    refine (Disk.markDisk_any _ _ ss.length ws.length _ _ Q9.os1 Q9.os2 (by omega) (by omega)).mono ?_
    rintro e w9 ⟨rfl, T9, _, _⟩
    have G10 := own_two G9 T9 Q9.r1 Q9.r2 (by omega)
    have W10 := W9.two T9 Q9.r1 Q9.r2 hWlt (Nat.le_refl _)
    have k10 := k9.two T9 Q9.r1 Q9.r2 (.inl (by omega))
    have hbw10 := hbw9.trans (T9.below (B := w.heap.size) hbw9.size (fun b e => by have := Q9.r1 b e; omega) (fun b e => by have := Q9.r2 b e; omega))
    have s10 := T9.size
    have tk : decide ((1 : Int) + ↑ss.length + 2 * ↑ws.length < 0) = false := by simp; omega
    clear G9 Q9 W9 k9 hbw9 x0 x1 T9
    go_wp2_with (fail)
    refine (eqInt64S_any _ _ nl nl _ (IR_of_owns G10) W10 (by omega) (by omega)).mono ?_
    rintro e w10 ⟨rfl, hb10⟩
    have G11 := own_later G10 hb10
    have W11 := W10.later hb10
    have k11 := k10.later hb10
    have hbw11 := bel_after hbw10 hb10
    have s11 := hb10.size
    clear G10 W10 k10 hbw10 tk hb10
    have R11 := row_of_owns G11
    have O11 := OS_of_owns G11
    have P11 : ∃ ao cap, gv = .slice ao nl.length cap ∧ nl.length ≤ cap := by
      obtain ⟨ao, cap, e, hc, _⟩ := own_cell G11
      exact ⟨ao, cap, e, hc⟩
    go_wp2_with (fail)
    refine (markInt64S_any _ nl.length _ _ O11 P11 (by omega) (by omega)).mono ?_
    rintro e w11 ⟨rfl, g11, hM11⟩
    have W12 := W11.low g11 hWlt (fun b e => by have := R11 b e; omega)
    have k12 := B2_grown k11 g11 (fun b e => by have := R11 b e; omega)
    have hbw12 := grown_bel hbw11 g11 hbw11.size (fun b e => by have := R11 b e; omega)
    have s12 := g11.size
    clear G11 W11 k11 hbw11 g11 R11 O11 P11
    go_wp2_with (fail)
    refine (heldInt64S_any _ nl.length _ _ hM11 (by omega) (by omega)).mono ?_
    rintro e w12 ⟨rfl, hb12⟩
    have W13 := W12.later hb12
    have k13 := k12.later hb12
    have M13 := hM11.later hb12
    have hbw13 := bel_after hbw12 hb12
    clear W12 k12 hM11 hbw12 hb12
    obtain ⟨c0, c1⟩ := k13
    go_wp2_with (fail)
    refine (Disk.toDisk_cap _ _ ss ws _ (hv1.later hbw13) (hv2.later hbw13) h1 h2).mono ?_
    rintro e w13 ⟨i1, i2, rfl, hci, hI, hb13⟩
    have hbw14 := bel_after hbw13 hb13
    go_wp2_with (fail)
    refine (I _ _ _ hI.2.2.1 hI.2.2.2.1 hci (hC.later hbw14)).mono ?_
    rintro e w14 ⟨⟨hv, rfl, hH⟩, hb14⟩
    have B14 := bel_after hb13 hb14
    have W15 := W13.later B14
    have M15 := M13.later B14
    have hbw15 := bel_after hbw13 B14
    clear W13 M13 hbw13 hbw14 hI c0 c1 hb13 hb14 B14 hci
    go_wp2_with (fail)
    refine (eqInt64S_any _ _ nl nl _ (IR_of_owns hH) W15 (by omega) (by omega)).mono ?_
    rintro e w15 ⟨rfl, hb15⟩
    have M16 := M15.later hb15
    have hbw16 := bel_after hbw15 hb15
    clear W15 M15 hbw15 hb15 hH
    go_wp2_with (fail)
    refine (heldInt64S_any _ nl.length _ _ M16 (by omega) (by omega)).mono ?_
    rintro e w16 ⟨rfl, hb16⟩
    have hbw17 := bel_after hbw16 hb16
    go_wp2
    go_ret
    exact ⟨rfl, hbw17⟩

end Go.Proofs.YtoffiioaedhilaaGreatDoor
