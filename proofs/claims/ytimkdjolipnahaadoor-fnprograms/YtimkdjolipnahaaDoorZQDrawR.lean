/- Texts that are drawn for the laws on Codes: DrawReadCode and DrawReadProgram of the model. -/
import Derived.Test.YtimkdjolipnahaaDoorZQBend
import Derived.Test.YtimkdjolipnahaaDoorZQDrawC
namespace Go.Proofs.YtimkdjolipnahaaDoor
open Go.RowKit

theorem gbelow {w w' : World} (h : Below w.heap.size w w') (r : Option Nat) : w.grownBy w' r := ⟨h.os, h.tape, h.output, h.size, fun k hk _ => h.block k hk⟩
theorem Dw.more {N : Nat} {cv : Value} {cs : List UInt8} {w w' : World} (h : Dw N cv cs w) (hb : Below w.heap.size w w') (hN : N < w.heap.size) : Dw N cv cs w' := h.grown (gbelow hb _) h (gbelow hb none) (by simp) hN

set_option maxRecDepth 100000 in
set_option maxHeartbeats 1600000 in
theorem drawReadCode_any (cv : Value) (cs : List UInt8) (w : World) (hc : BR w cv cs) (hn : cs.length ≤ 4096) :
    Calls Tryd.prog 11 #[cv] w fun x w' => (∃ t : ByteArray, x = .returned (.string t) ∧ t.size ≤ 32) ∧ Below w.heap.size w w' := by
  go_enter Tryd.func11, Tryd.ntmps11
  go_wp2_with fail
  refine (l1New_any cv cs _ hc hn).mono ?_
  rintro x w1 ⟨N, rfl, n0, n1, hb1, d1⟩
  have C1 := d1.code n1
  clear hc
  go_wp2_with fail
  refine C1.mono ?_
  rintro x w2 ⟨⟨a, b, rfl⟩, g2, d2⟩
  have n2 : N < w2.heap.size := Nat.lt_of_lt_of_le n1 g2.size
  have B2 : Below w.heap.size w w2 := gbel hb1 g2 hb1.size n0
  clear C1 g2 hb1 d1
  go_wp2_with fail
  refine (specShow_any a b _).mono ?_
  rintro x w3 ⟨rfl, hb3⟩
  have d3 := d2.more hb3 n2
  have n3 : N < w3.heap.size := Nat.lt_of_lt_of_le n2 hb3.size
  have B3 := bel_afterQ B2 hb3
  have hz := show_size a b
  clear hb3 d2 B2
  generalize showB a b = t at *
  go_wp2_with fail
  refine (d3.once 2 (by omega) (by omega)).mono ?_
  rintro x w4 ⟨⟨c, rfl⟩, g4, d4⟩
  have n4 : N < w4.heap.size := Nat.lt_of_lt_of_le n3 g4.size
  have B4 : Below w.heap.size w w4 := gbel B3 g4 B3.size n0
  clear g4 B3 d3
  cases c
  · go_wp2
    go_ret
    exact ⟨⟨t, rfl, by omega⟩, B4⟩
  · have BD := d4.bend n4 t ⟨#[48, 49, 50, 57, 32, 45, 112, 120]⟩ (by omega) (by decide) (by decide)
    go_wp2_with fail
    refine BD.mono ?_
    rintro x w5 ⟨⟨u, rfl, hu⟩, g5, d5⟩
    have B5 : Below w.heap.size w w5 := gbel B4 g5 B4.size n0
    clear BD g5 d5 d4 B4
    go_wp2
    go_ret
    exact ⟨⟨u, rfl, by omega⟩, B5⟩

/-- A program's text under way. -/
structure DP (w : World) (N : Nat) (cv : Value) (cs : List UInt8) (wr : World) : Prop where
  d : Dw N cv cs wr
  n : N < wr.heap.size
  b : Below w.heap.size w wr
  l : w.heap.size ≤ N
theorem DP.call {w wr w' : World} {N : Nat} {cv : Value} {cs : List UInt8} (h : DP w N cv cs wr) (g : wr.grownBy w' (some N)) (d : Dw N cv cs w') : DP w N cv cs w' := ⟨d, Nat.lt_of_lt_of_le h.n g.size, gbel h.b g h.b.size h.l, h.l⟩
theorem DP.more {w wr w' : World} {N : Nat} {cv : Value} {cs : List UInt8} (h : DP w N cv cs wr) (g : Below wr.heap.size wr w') : DP w N cv cs w' := h.call (gbelow g _) (h.d.more g h.n)
theorem cat3 (a b : ByteArray) : (a ++ b ++ ⟨#[10]⟩).size = a.size + b.size + 1 := by
  rw [ByteArray.size_append, ByteArray.size_append]
  rfl
theorem cat4 (a : ByteArray) : (a ++ ⟨#[100, 117, 112, 10]⟩).size = a.size + 4 := by
  rw [ByteArray.size_append]
  rfl

set_option maxRecDepth 100000 in
set_option maxHeartbeats 3200000 in
theorem drawReadProgram_any (cv : Value) (cs : List UInt8) (w : World) (hc : BR w cv cs) (hn : cs.length ≤ 4096) :
    Calls Tryd.prog 13 #[cv] w fun x w' => (∃ t : ByteArray, x = .returned (.string t) ∧ t.size ≤ 1000) ∧ Below w.heap.size w w' := by
  have c3 := cat3
  have c4 := cat4
  go_enter Tryd.func13, Tryd.ntmps13
  go_wp2_with fail
  refine (l1New_any cv cs _ hc hn).mono ?_
  rintro x w1 ⟨N, rfl, n0, n1, hb1, d1⟩
  have dp1 : DP w N cv cs w1 := ⟨d1, n1, hb1, n0⟩
  clear hc d1 n1 hb1 n0
  go_wp2_with fail
  refine (dp1.d.below 8 (by omega) (by omega)).mono ?_
  rintro x w2 ⟨⟨z, rfl, z0, z1⟩, g2, d2⟩
  have dp2 := dp1.call g2 d2
  clear g2 d2 dp1
  obtain ⟨zn, rfl⟩ := Int.eq_ofNat_of_zero_le z0
  go_wp2
  go_loopw [4, 5] (fun sv nv wr => ∃ (t : ByteArray) (j : Nat), sv = .string t ∧ nv = .int .i64 j ∧ t.size + 31 * j ≤ 217 ∧ DP w N cv cs wr) (fun _ nv _ => (intOf nv).toNat)
  case atStart => exact ⟨⟨#[]⟩, zn, rfl, rfl, by show 0 + 31 * zn ≤ 217; omega, dp2⟩
  case round =>
    obtain ⟨t, j, rfl, rfl, hj, dp⟩ := hrel
    clear dp2
    by_cases hj0 : 0 < j
    · have e0 : decide ((0 : Int) < (j : Int)) = true := by simp; omega
      go_wp2_with fail
      refine (dp.d.code dp.n).mono ?_
      rintro x w3 ⟨⟨a, b, rfl⟩, g3, d3⟩
      have dp3 := dp.call g3 d3
      clear g3 d3 dp
      go_wp2_with fail
      refine (specShow_any a b _).mono ?_
      rintro x w4 ⟨rfl, hb4⟩
      have dp4 := dp3.more hb4
      clear hb4 dp3
      have hz := show_size a b
      generalize showB a b = u at *
      have q1 : ¬ 9223372036854775807 < t.size + u.size := by omega
      have q2 : ¬ 9223372036854775807 < (t ++ u).size + (⟨#[10]⟩ : ByteArray).size := by rw [ByteArray.size_append]; show ¬ _ < _ + 1; omega
      have H3 : Hid ((t ++ u ++ ⟨#[10]⟩ : ByteArray).size = t.size + u.size + 1) := c3 t u
      clear c3 c4
      go_wp2
      exact ⟨⟨_, j - 1, rfl, by go_num, by rw [H3.out]; omega, dp4⟩, by simp [intOf]; omega⟩
    · have e0 : decide ((0 : Int) < (j : Int)) = false := decide_eq_false (by omega)
      go_wp2_with fail
      refine (dp.d.once 3 (by omega) (by omega)).mono ?_
      rintro x w3 ⟨⟨c, rfl⟩, g3, d3⟩
      have dp3 := dp.call g3 d3
      clear g3 d3 dp
      clear c3 c4
      cases c
      · go_wp2_with fail
        refine (dp3.d.once 30 (by omega) (by omega)).mono ?_
        rintro x w6 ⟨⟨c6, rfl⟩, g6, d6⟩
        have dp6 := dp3.call g6 d6
        clear g6 d6 dp3
        cases c6
        · go_wp2
          go_ret
          exact ⟨⟨_, rfl, by omega⟩, dp6.b⟩
        · go_wp2_with fail
          refine (dp6.d.below 2 (by omega) (by omega)).mono ?_
          rintro x w7 ⟨⟨y, rfl, y0, y1⟩, g7, d7⟩
          have dp7 := dp6.call g7 d7
          clear g7 d7 dp6
          obtain ⟨yn, rfl⟩ := Int.eq_ofNat_of_zero_le y0
          go_wp2
          go_loopw [4, 6] (fun sv nv wr => ∃ (t : ByteArray) (j : Nat), sv = .string t ∧ nv = .int .i64 j ∧ t.size + 4 * j ≤ 404 ∧ DP w N cv cs wr) (fun _ nv _ => (intOf nv).toNat)
          case atStart => exact ⟨⟨#[]⟩, 100 + yn, rfl, by go_num, by show 0 + 4 * (100 + yn) ≤ 404; omega, dp7⟩
          case round =>
            obtain ⟨v, i, rfl, rfl, hi, dp⟩ := hrel
            clear dp7
            by_cases hi0 : 0 < i
            · have e1 : decide ((0 : Int) < (i : Int)) = true := by simp; omega
              have q1 : ¬ 9223372036854775807 < v.size + (⟨#[100, 117, 112, 10]⟩ : ByteArray).size := by show ¬ _ < _ + 4; omega
              have H4 : Hid ((v ++ ⟨#[100, 117, 112, 10]⟩ : ByteArray).size = v.size + 4) := cat4 v
              go_wp2
              exact ⟨⟨_, i - 1, rfl, by go_num, by rw [H4.out]; omega, dp⟩, by simp [intOf]; omega⟩
            · have e1 : decide ((0 : Int) < (i : Int)) = false := decide_eq_false (by omega)
              go_wp2
              go_ret
              exact ⟨⟨_, rfl, by omega⟩, dp.b⟩
      · have BD := dp3.d.bend dp3.n t ⟨#[48, 49, 50, 57, 32, 45, 112, 120, 10]⟩ (by omega) (by decide) (by decide)
        go_wp2_with fail
        refine BD.mono ?_
        rintro x w5 ⟨⟨u, rfl, hu⟩, g5, d5⟩
        have dp5 := dp3.call g5 d5
        clear BD g5 d5 dp3
        go_wp2_with fail
        refine (dp5.d.once 30 (by omega) (by omega)).mono ?_
        rintro x w6 ⟨⟨c6, rfl⟩, g6, d6⟩
        have dp6 := dp5.call g6 d6
        clear g6 d6 dp5
        cases c6
        · go_wp2
          go_ret
          exact ⟨⟨_, rfl, by omega⟩, dp6.b⟩
        · go_wp2_with fail
          refine (dp6.d.below 2 (by omega) (by omega)).mono ?_
          rintro x w7 ⟨⟨y, rfl, y0, y1⟩, g7, d7⟩
          have dp7 := dp6.call g7 d7
          clear g7 d7 dp6
          obtain ⟨yn, rfl⟩ := Int.eq_ofNat_of_zero_le y0
          go_wp2
          go_loopw [4, 6] (fun sv nv wr => ∃ (t : ByteArray) (j : Nat), sv = .string t ∧ nv = .int .i64 j ∧ t.size + 4 * j ≤ 404 ∧ DP w N cv cs wr) (fun _ nv _ => (intOf nv).toNat)
          case atStart => exact ⟨⟨#[]⟩, 100 + yn, rfl, by go_num, by show 0 + 4 * (100 + yn) ≤ 404; omega, dp7⟩
          case round =>
            obtain ⟨v, i, rfl, rfl, hi, dp⟩ := hrel
            clear dp7
            by_cases hi0 : 0 < i
            · have e1 : decide ((0 : Int) < (i : Int)) = true := by simp; omega
              have q1 : ¬ 9223372036854775807 < v.size + (⟨#[100, 117, 112, 10]⟩ : ByteArray).size := by show ¬ _ < _ + 4; omega
              have H4 : Hid ((v ++ ⟨#[100, 117, 112, 10]⟩ : ByteArray).size = v.size + 4) := cat4 v
              go_wp2
              exact ⟨⟨_, i - 1, rfl, by go_num, by rw [H4.out]; omega, dp⟩, by simp [intOf]; omega⟩
            · have e1 : decide ((0 : Int) < (i : Int)) = false := decide_eq_false (by omega)
              go_wp2
              go_ret
              exact ⟨⟨_, rfl, by omega⟩, dp.b⟩

end Go.Proofs.YtimkdjolipnahaaDoor
