/- toStringS, toWrite, toWriteS, toDisk: copies in memory of their own. -/
import Derived.Test.YtkalbamigadgnaaNew
namespace Go.Proofs.Ytkalbamigadgnaa
open Go.RowKit

theorem Try.info53 : (Try.prog.info? 53).map (fun i => (i.zero, i.size, i.bytes)) = some (some (.agg #[.int .i64 0, .string ⟨#[]⟩]), 2, 24) := by kernel_rfl
theorem Try.under28 : Try.prog.underlying 28 = some (.slice 53) := by kernel_rfl

theorem make22 (n : Nat) (hn : n ≤ 10000000000000) (w : World) : (Instr.makeSlice 22 (.int .i64 (n : Int)) (.int .i64 (n : Int))).run Try.prog w = .ok (.slice (some ⟨w.heap.size, 0, none⟩) n n) (w.alloc (.cells (madeCells #[.string ⟨#[]⟩] n) 9)) :=
  run_make_row' (P := Try.prog) 22 9 (.string ⟨#[]⟩) 16 Try.under22 Try.info9 rfl .i64 .i64 n (by omega) (by omega) w

theorem make28 (n : Nat) (hn : n ≤ 10000000000000) (w : World) : (Instr.makeSlice 28 (.int .i64 (n : Int)) (.int .i64 (n : Int))).run Try.prog w = .ok (.slice (some ⟨w.heap.size, 0, none⟩) n n) (w.alloc (.cells (madeCells #[.int .i64 0, .string ⟨#[]⟩] (n * 2)) 53)) := by
  obtain ⟨i, hi, hzz⟩ := Option.map_eq_some_iff.1 Try.info53
  simp only [Prod.mk.injEq] at hzz
  obtain ⟨hz, hs, hb⟩ := hzz
  have hr := run_make (P := Try.prog) w 28 53 i _ Try.under28 hi hz .i64 .i64 n n (by omega) (Int.le_refl _) (by rw [hb]; omega) (by omega)
  rw [hs, Int.toNat_natCast] at hr
  exact hr

theorem row_any (w : World) (C : Array Value) (t : TypeId) : (w.alloc (.cells C t)).rowIs w.heap.size t C.size (fun i => C[i]?.getD undef) :=
  World.rowIs_alloc w C t _ (fun i hi => by simp [hi])

theorem made_row1 (w : World) (n : Nat) : ∃ f, (w.alloc (.cells (madeCells #[.string ⟨#[]⟩] n) 9)).rowIs w.heap.size 9 n f := by
  have h := row_any w (madeCells #[.string ⟨#[]⟩] n) 9
  rw [size_madeCells] at h
  exact ⟨_, h⟩

theorem made_row2 (w : World) (n : Nat) : ∃ f, (w.alloc (.cells (madeCells #[.int .i64 0, .string ⟨#[]⟩] (n * 2)) 53)).rowIs w.heap.size 53 (n * 2) f := by
  have h := row_any w (madeCells #[.int .i64 0, .string ⟨#[]⟩] (n * 2)) 53
  rw [size_madeCells] at h
  exact ⟨_, h⟩

theorem row_copy {w : World} {b N j : Nat} {t : TypeId} {g f : Nat → Value} (h : w.rowIs b t N (fun i => if i < j then g i else f i)) (v : Value) (hv : v = g j) :
    (w.setCell ⟨b, j, none⟩ v).rowIs b t N (fun i => if i < j + 1 then g i else f i) := by
  refine (h.set j _).congr fun i _ => ?_
  by_cases e : i = j
  · subst e; simp [hv]
  · by_cases e' : i < j
    · rw [if_neg e, if_pos e', if_pos (by omega)]
    · rw [if_neg e, if_neg e', if_neg (by omega)]

def scell (ss : List ByteArray) (i : Nat) : Value := .string (ss.getD i ByteArray.empty)
def lcell (ws : List Wr) (c : Nat) : Value := if c % 2 = 0 then .int .i64 (ws.getD (c / 2) wr0).1 else .string (ws.getD (c / 2) wr0).2

theorem lcell_even (ws : List Wr) (j : Nat) : lcell ws (j * 2) = .int .i64 (ws.getD j wr0).1 := by
  unfold lcell
  rw [if_pos (by omega), Nat.mul_div_cancel j (by omega)]

theorem lcell_odd (ws : List Wr) (j : Nat) : lcell ws (j * 2 + 1) = .string (ws.getD j wr0).2 := by
  unfold lcell
  rw [if_neg (by omega), show (j * 2 + 1) / 2 = j from by omega]

/-- A new slice of texts with a row of its own from block B on. -/
def NS (B : Nat) (w' : World) (v : Value) (ss : List ByteArray) : Prop :=
  OS w' 9 1 v ss.length ∧ SR w' v ss ∧ ∀ b, rowOf v ss.length = some b → B ≤ b
def NW (B : Nat) (w' : World) (v : Value) (ws : List Wr) : Prop :=
  OS w' 53 2 v ws.length ∧ WR w' v ws ∧ ∀ b, rowOf v ws.length = some b → B ≤ b

theorem ND_of {B : Nat} {w : World} {v1 v2 : Value} {ss : List ByteArray} {ws : List Wr} (h : NS B w v1 ss) (k : NW B w v2 ws) : ND B w v1 v2 ss ws :=
  ⟨h.1, k.1, h.2.1, k.2.1, h.2.2, k.2.2⟩

theorem NS.later {B : Nat} {w w' : World} {v : Value} {ss : List ByteArray} (h : NS B w v ss) (hb : Below w.heap.size w w') : NS B w' v ss := ⟨h.1.later hb, h.2.1.later hb, h.2.2⟩
theorem NW.later {B : Nat} {w w' : World} {v : Value} {ws : List Wr} (h : NW B w v ws) (hb : Below w.heap.size w w') : NW B w' v ws := ⟨h.1.later hb, h.2.1.later hb, h.2.2⟩
theorem NS.mono {B B' : Nat} {w : World} {v : Value} {ss : List ByteArray} (h : NS B w v ss) (hb : B' ≤ B) : NS B' w v ss := ⟨h.1, h.2.1, fun b e => Nat.le_trans hb (h.2.2 b e)⟩
theorem NW.mono {B B' : Nat} {w : World} {v : Value} {ws : List Wr} (h : NW B w v ws) (hb : B' ≤ B) : NW B' w v ws := ⟨h.1, h.2.1, fun b e => Nat.le_trans hb (h.2.2 b e)⟩

theorem ns_row {B : Nat} {w : World} {b N cap : Nat} {ss : List ByteArray} {f : Nat → Value} (h : w.rowIs b 9 N (fun i => if i < ss.length then scell ss i else f i)) (hN : ss.length ≤ N) (hB : B ≤ b) :
    NS B w (.slice (some ⟨b, 0, none⟩) ss.length cap) ss := by
  refine ⟨⟨_, _, rfl, .inr ⟨b, N, _, rfl, by omega, h⟩⟩, ⟨_, _, rfl, fun i hi => ⟨b, 0, rfl, ?_⟩⟩, fun b' e => ?_⟩
  · rw [Nat.zero_add, h.cell (by omega), if_pos hi]
    rfl
  · unfold rowOf at e
    by_cases hn : ss.length = 0
    · simp [hn] at e
    · simp [hn, Value.ownBlock] at e
      omega

theorem nw_row {B : Nat} {w : World} {b N cap : Nat} {ws : List Wr} {f : Nat → Value} (h : w.rowIs b 53 N (fun i => if i < ws.length * 2 then lcell ws i else f i)) (hN : ws.length * 2 ≤ N) (hB : B ≤ b) :
    NW B w (.slice (some ⟨b, 0, none⟩) ws.length cap) ws := by
  refine ⟨⟨_, _, rfl, .inr ⟨b, N, _, rfl, by omega, h⟩⟩, ⟨_, _, rfl, fun i hi => ⟨b, 0, rfl, ?_, ?_⟩⟩, fun b' e => ?_⟩
  · rw [Nat.zero_add, h.cell (by omega), if_pos (by omega), lcell_even]
  · rw [Nat.zero_add, h.cell (by omega), if_pos (by omega), lcell_odd]
  · unfold rowOf at e
    by_cases hn : ws.length = 0
    · simp [hn] at e
    · simp [hn, Value.ownBlock] at e
      omega

set_option maxHeartbeats 400000 in
theorem toStringS_any (v : Value) (ss : List ByteArray) (w : World) (hv : SR w v ss) (h1 : ss.length ≤ 10000000000000) :
    Calls Try.prog 32 #[v] w fun e w' => ∃ v', e = .returned v' ∧ NS w.heap.size w' v' ss ∧ Below w.heap.size w w' := by
  obtain ⟨ao, cap, rfl, hv⟩ := hv
  have hmk := make22 ss.length h1
  obtain ⟨f, hr0⟩ := made_row1 w ss.length
  go_enter Try.func32, Try.ntmps32
  go_wp2
  go_loopw [4] (fun i wr => ∃ (j : Nat), j ≤ ss.length ∧ i = .int .i64 j ∧ Below w.heap.size w wr ∧ wr.rowIs w.heap.size 9 ss.length (fun i => if i < j then scell ss i else f i)) (fun i _ => ss.length - (intOf i).toNat)
  case atStart => exact ⟨0, Nat.zero_le _, rfl, bel_one _ _, hr0.congr (fun i _ => by simp)⟩
  case round =>
    obtain ⟨j, hj, rfl, hb, hrow⟩ := hrel
    by_cases hlt : j < ss.length
    · obtain ⟨b, o, rfl, hc⟩ := hv j hlt
      have hc1 := cell_later hb hc
      have hc2 := hrow.cell (i := j) hlt
      have hf2 := hrow.frozen j
      have R := row_copy hrow (.string (ss.getD j ByteArray.empty)) rfl
      have G := hb.setCell (p := ⟨w.heap.size, j, none⟩) (Nat.le_refl _) (.string (ss.getD j ByteArray.empty))
      generalize ss.getD j ByteArray.empty = s at *
      clear hv hc hrow hr0 hmk
      go_wp2
      go_roundw
      case rel => exact ⟨j + 1, by omega, by go_num, G, R⟩
      case measure => simp [intOf]; omega
    · obtain rfl : j = ss.length := by omega
      go_wp2
      go_ret
      exact ⟨_, rfl, ns_row hrow (Nat.le_refl _) (Nat.le_refl _), hb⟩

set_option maxHeartbeats 400000 in
theorem toWrite_any (a : Int) (s : ByteArray) (w : World) :
    Calls Try.prog 49 #[.agg #[.int .i64 a, .string s]] w fun e w' => e = .returned (.agg #[.int .i64 a, .string s]) ∧ Below w.heap.size w w' := by
  go_enter Try.func49, Try.ntmps49
  go_wp2
  exact bodyPost_ret (v := .agg #[.int .i64 a, .string s]) (by simp [results, Try.results49, go_sem]) rfl ⟨rfl, (bel_two _ _ _).alloc (by simp; omega) _⟩

set_option maxHeartbeats 400000 in
theorem toWriteS_any (v : Value) (ws : List Wr) (w : World) (hv : WR w v ws) (h1 : ws.length ≤ 10000000000000) :
    Calls Try.prog 33 #[v] w fun e w' => ∃ v', e = .returned v' ∧ NW w.heap.size w' v' ws ∧ Below w.heap.size w w' := by
  obtain ⟨ao, cap, rfl, hv⟩ := hv
  have hmk := make28 ws.length h1
  obtain ⟨f, hr0⟩ := made_row2 w ws.length
  go_enter Try.func33, Try.ntmps33
  go_wp2
  go_loopw [4] (fun i wr => ∃ (j : Nat), j ≤ ws.length ∧ i = .int .i64 j ∧ Below w.heap.size w wr ∧ wr.rowIs w.heap.size 53 (ws.length * 2) (fun i => if i < j * 2 then lcell ws i else f i)) (fun i _ => ws.length - (intOf i).toNat)
  case atStart => exact ⟨0, Nat.zero_le _, rfl, bel_one _ _, hr0.congr (fun i _ => by simp)⟩
  case round =>
    obtain ⟨j, hj, rfl, hb, hrow⟩ := hrel
    by_cases hlt : j < ws.length
    · obtain ⟨b, o, rfl, hc, hd⟩ := hv j hlt
      have hc1 := cell_later hb hc
      have hd1 := cell_later hb hd
      have E1 := lcell_even ws j
      have E2 := lcell_odd ws j
      generalize ws.getD j wr0 = s at *
      obtain ⟨s1, s2⟩ := s
      have HE1 : Hid (lcell ws (j * 2) = .int .i64 s1) := E1
      have HE2 : Hid (lcell ws (j * 2 + 1) = .string s2) := E2
      clear hv hc hd hr0 hmk E1 E2
      go_wp2_with (fail)
      refine (toWrite_any _ _ _).mono ?_
      rintro e w2 ⟨rfl, hb2⟩
      have hb3 := bel_then hb hb.size hb2
      have hrow2 := hrow.of_block (hb2.block _ hrow.lt)
      have k1 := hrow2.cell (i := j * 2) (by omega)
      have k2 := hrow2.cell (i := j * 2 + 1) (by omega)
      have f1 := hrow2.frozen (j * 2)
      have f2 := hrow2.frozen (j * 2 + 1)
      have R1 := row_copy hrow2 (.int .i64 s1) HE1.out.symm
      have R2 := row_copy R1 (.string s2) HE2.out.symm
      have G1 := hb3.setCell (p := ⟨w.heap.size, j * 2, none⟩) (Nat.le_refl _) (.int .i64 s1)
      have G2 := G1.setCell (p := ⟨w.heap.size, j * 2 + 1, none⟩) (Nat.le_refl _) (.string s2)
      clear hrow hrow2 R1 G1
      go_wp2
      go_roundw
      case rel => exact ⟨j + 1, by omega, by go_num, G2, by rw [Nat.add_mul]; exact R2⟩
      case measure => simp [intOf]; omega
    · obtain rfl : j = ws.length := by omega
      go_wp2
      go_ret
      exact ⟨_, rfl, nw_row hrow (Nat.le_refl _) (Nat.le_refl _), hb⟩

theorem NS.s1 {B : Nat} {w : World} {v : Value} {ss : List ByteArray} (h : NS B w v ss) : ∃ ao n cap, v = .slice ao n cap := by
  obtain ⟨ao, cap, e, _⟩ := h.1
  exact ⟨ao, _, cap, e⟩
theorem NW.s1 {B : Nat} {w : World} {v : Value} {ws : List Wr} (h : NW B w v ws) : ∃ ao n cap, v = .slice ao n cap := by
  obtain ⟨ao, cap, e, _⟩ := h.1
  exact ⟨ao, _, cap, e⟩

theorem cell_new (w : World) (C : Array Value) (t n : Nat) (hn : w.heap.size = n) (j : Nat) (v : Value) (hv : C[j]? = some v) : (w.alloc (.cells C t)).cell? ⟨n, j, none⟩ = some v := by
  subst hn
  rw [World.cell?_alloc_mark]
  exact hv

theorem frozen_new (w : World) (C : Array Value) (t n : Nat) (hn : w.heap.size = n) (j : Nat) : (w.alloc (.cells C t)).frozen? ⟨n, j, none⟩ = false := by
  subst hn
  rw [World.frozen?_alloc_mark]
  simp

theorem frozen_later {w w' : World} {b o : Nat} (hb : Below w.heap.size w w') (hlt : b < w.heap.size) (h : w.frozen? ⟨b, o, none⟩ = false) : w'.frozen? ⟨b, o, none⟩ = false :=
  (hb.frozen (p := ⟨b, o, none⟩) hlt).trans h

theorem row_own {v : Value} {n b : Nat} (h : ∀ b', rowOf v n = some b' → b < b') : n = 0 ∨ v.ownBlock ≠ some b := by
  by_cases hn : n = 0
  · exact .inl hn
  · right
    intro e
    have := h b (by rw [rowOf, if_neg hn]; exact e)
    omega

/-- A store below the row leaves the slice as it was. -/
theorem NS.store {B : Nat} {w : World} {v : Value} {ss : List ByteArray} (h : NS B w v ss) {b o : Nat} (u : Value) (hb : b < B) : NS B (w.setCell ⟨b, o, none⟩ u) v ss := by
  have hr := row_own (v := v) (n := ss.length) (b := b) (fun b' e => Nat.lt_of_lt_of_le hb (h.2.2 b' e))
  exact ⟨h.1.grown (grown_set w b o u) hr, h.2.1.grown (grown_set w b o u) (hr.elim (fun e => .inl (List.length_eq_zero_iff.1 e)) .inr), h.2.2⟩

theorem NW.store {B : Nat} {w : World} {v : Value} {ws : List Wr} (h : NW B w v ws) {b o : Nat} (u : Value) (hb : b < B) : NW B (w.setCell ⟨b, o, none⟩ u) v ws := by
  have hr := row_own (v := v) (n := ws.length) (b := b) (fun b' e => Nat.lt_of_lt_of_le hb (h.2.2 b' e))
  exact ⟨h.1.grown (grown_set w b o u) hr, h.2.1.grown (grown_set w b o u) (hr.elim (fun e => .inl (List.length_eq_zero_iff.1 e)) .inr), h.2.2⟩

set_option maxHeartbeats 400000 in
theorem toDisk_any (v1 v2 : Value) (ss : List ByteArray) (ws : List Wr) (w : World) (hv1 : SR w v1 ss) (hv2 : WR w v2 ws) (h1 : ss.length ≤ 10000000000000) (h2 : ws.length ≤ 10000000000000) :
    Calls Try.prog 11 #[.agg #[v1, v2]] w fun e w' => ∃ u1 u2, e = .returned (.agg #[u1, u2]) ∧ ND w.heap.size w' u1 u2 ss ws ∧ Below w.heap.size w w' := by
  have hb0 : Below w.heap.size w (((w.alloc (.cells #[v1, v2] 25)).alloc (.cells #[.slice none 0 0, .slice none 0 0] 30)).alloc (.cells #[.slice none 0 0, .slice none 0 0] 30)) := (bel_two _ _ _).alloc (by simp; omega) _
  go_enter Try.func11, Try.ntmps11
  go_wp2_with (fail)
  refine (toStringS_any _ ss _ (hv1.later hb0) h1).mono ?_
  rintro e w1 ⟨u1, rfl, hN1, hb1⟩
  obtain ⟨ao, an, ac, rfl⟩ := hN1.s1
  simp only [World.size_alloc] at hN1
  have hbw1 : Below w.heap.size w w1 := hb0.trans (hb1.mono (by simp; omega))
  have hz1 : w.heap.size + 1 + 1 + 1 ≤ w1.heap.size := by have := hb1.size; simpa using this
  have k1 : w1.cell? ⟨w.heap.size, 1, none⟩ = some v2 := cell_later hb1 (cell_later (bel_two _ _ _) (cell_new w #[v1, v2] 25 _ rfl 1 _ rfl))
  have k2 : w1.cell? ⟨w.heap.size + 1, 0, none⟩ = some (.slice none 0 0) := cell_later hb1 (cell_later (bel_one _ _) (cell_new _ #[.slice none 0 0, .slice none 0 0] 30 _ (by simp) 0 _ rfl))
  have k3 : w1.cell? ⟨w.heap.size + 1, 1, none⟩ = some (.slice none 0 0) := cell_later hb1 (cell_later (bel_one _ _) (cell_new _ #[.slice none 0 0, .slice none 0 0] 30 _ (by simp) 1 _ rfl))
  have k4 : w1.cell? ⟨w.heap.size + 1 + 1, 0, none⟩ = some (.slice none 0 0) := cell_later hb1 (cell_new _ #[.slice none 0 0, .slice none 0 0] 30 _ (by simp) 0 _ rfl)
  have k5 : w1.cell? ⟨w.heap.size + 1 + 1, 1, none⟩ = some (.slice none 0 0) := cell_later hb1 (cell_new _ #[.slice none 0 0, .slice none 0 0] 30 _ (by simp) 1 _ rfl)
  have f2 : ∀ o, w1.frozen? ⟨w.heap.size + 1, o, none⟩ = false := fun o => frozen_later hb1 (by simp) (frozen_later (bel_one _ _) (by simp) (frozen_new _ #[.slice none 0 0, .slice none 0 0] 30 _ (by simp) o))
  have f4 : ∀ o, w1.frozen? ⟨w.heap.size + 1 + 1, o, none⟩ = false := fun o => frozen_later hb1 (by simp) (frozen_new _ #[.slice none 0 0, .slice none 0 0] 30 _ (by simp) o)
  have hN1' := hN1.store (b := w.heap.size + 1 + 1) (o := 0) (.slice ao an ac) (by omega)
  have hbw1' := hbw1.setCell (p := ⟨w.heap.size + 1 + 1, 0, none⟩) (by simp; omega) (.slice ao an ac)
  clear hb1 hN1
  go_wp2_with (fail)
  refine (toWriteS_any _ ws _ (hv2.later hbw1') h2).mono ?_
  rintro e w2 ⟨u2, rfl, hN2, hb2⟩
  obtain ⟨bo, bn, bc, rfl⟩ := hN2.s1
  have hz2 : w.heap.size + 1 + 1 + 1 ≤ w2.heap.size := by have := hb2.size; simp at this; omega
  have m2 : w2.cell? ⟨w.heap.size + 1, 0, none⟩ = some (.slice none 0 0) := cell_later hb2 ((World.cell?_setCell_other _ _ _ _ (by simp)).trans k2)
  have m3 : w2.cell? ⟨w.heap.size + 1, 1, none⟩ = some (.slice none 0 0) := cell_later hb2 ((World.cell?_setCell_other _ _ _ _ (by simp)).trans k3)
  have m4 : w2.cell? ⟨w.heap.size + 1 + 1, 0, none⟩ = some (.slice ao an ac) := cell_later hb2 (World.cell?_setCell_same _ _ _ k4)
  have m5 : w2.cell? ⟨w.heap.size + 1 + 1, 1, none⟩ = some (.slice none 0 0) := cell_later hb2 ((World.cell?_setCell_other _ _ _ _ (by simp)).trans k5)
  have n2 : ∀ o, w2.frozen? ⟨w.heap.size + 1, o, none⟩ = false := fun o => frozen_later hb2 (by simp; omega) (by rw [World.frozen?_setCell]; exact f2 o)
  have n4 : ∀ o, w2.frozen? ⟨w.heap.size + 1 + 1, o, none⟩ = false := fun o => frozen_later hb2 (by simp; omega) (by rw [World.frozen?_setCell]; exact f4 o)
  have hM1 := hN1'.later hb2
  have hM2 : NW (w.heap.size + 1 + 1 + 1) w2 (.slice bo bn bc) ws := hN2.mono (by simp; omega)
  have hbw2 := bel_then hbw1' hbw1'.size hb2
  have P1 := ((hM1.store (b := w.heap.size + 1 + 1) (o := 1) (.slice bo bn bc) (by omega)).store (b := w.heap.size + 1) (o := 0) (.slice ao an ac) (by omega)).store (b := w.heap.size + 1) (o := 1) (.slice bo bn bc) (by omega)
  have P2 := ((hM2.store (b := w.heap.size + 1 + 1) (o := 1) (.slice bo bn bc) (by omega)).store (b := w.heap.size + 1) (o := 0) (.slice ao an ac) (by omega)).store (b := w.heap.size + 1) (o := 1) (.slice bo bn bc) (by omega)
  have P3 := ((hbw2.setCell (p := ⟨w.heap.size + 1 + 1, 1, none⟩) (by simp; omega) (.slice bo bn bc)).setCell (p := ⟨w.heap.size + 1, 0, none⟩) (by simp) (.slice ao an ac)).setCell (p := ⟨w.heap.size + 1, 1, none⟩) (by simp) (.slice bo bn bc)
  clear hN1' hN2 hM1 hM2 hbw2 hb2 k1 k2 k3 k4 k5 f2 f4 hbw1 hbw1' hb0
  go_wp2
  exact bodyPost_ret (v := .agg #[.slice ao an ac, .slice bo bn bc]) (by simp [results, Try.results11, go_sem, m2, m3]) rfl ⟨_, _, rfl, ND_of (P1.mono (by omega)) (P2.mono (by omega)), P3⟩

end Go.Proofs.Ytkalbamigadgnaa
