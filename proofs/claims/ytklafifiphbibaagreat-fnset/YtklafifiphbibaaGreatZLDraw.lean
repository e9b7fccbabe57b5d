/- The draw of a heap: l5Draw of the model. -/
import Derived.Test.YtklafifiphbibaaGreatZLSwA
import Derived.Test.YtklafifiphbibaaGreatZLSwB
import Derived.Test.YtklafifiphbibaaGreatZLSwC
import Derived.Test.YtklafifiphbibaaGreatZLReg56
namespace Go.Proofs.YtklafifiphbibaaGreat
open Go.RowKit

set_option maxRecDepth 100000 in
set_option maxHeartbeats 12800000 in
theorem Dw.heap {N : Nat} {cv : Value} {cs : List UInt8} {w : World} (h : Dw N cv cs w) (hN : N < w.heap.size) :
    Calls Tryz.prog 66 #[.pointer (some ⟨N, 0, none⟩)] w fun x w' => DrawnH w N cv cs x w' := by
  have al := bel_one w (.cells #[.slice none 0 0, .slice none 0 0, .int .i64 0, .int .i64 0, .int .i64 0, .bool false, .int .i64 0, .slice none 0 0] 26)
  have NH := specNewHeap_y (w.alloc (.cells #[.slice none 0 0, .slice none 0 0, .int .i64 0, .int .i64 0, .int .i64 0, .bool false, .int .i64 0, .slice none 0 0] 26))
  rw [World.size_alloc] at NH
  have RS0 := row_any w #[.slice none 0 0, .slice none 0 0, .int .i64 0, .int .i64 0, .int .i64 0, .bool false, .int .i64 0, .slice none 0 0] 26
  go_enter Tryz.func66, Tryz.ntmps66
  go_wp2_with fail
  refine NH.mono ?_
  rintro e w1 ⟨⟨rfl, RW0⟩, hb1'⟩
  have hb1 : Below (w.alloc (.cells #[.slice none 0 0, .slice none 0 0, .int .i64 0, .int .i64 0, .int .i64 0, .bool false, .int .i64 0, .slice none 0 0] 26)).heap.size (w.alloc (.cells #[.slice none 0 0, .slice none 0 0, .int .i64 0, .int .i64 0, .int .i64 0, .bool false, .int .i64 0, .slice none 0 0] 26)) w1 := by simpa using hb1'
  have hbw := bel_after al hb1
  have al2 := bel_one w1 (.cells #[.slice (some ⟨w.heap.size + 1 + 1, 0, none⟩) 3200 3200, .slice none 0 0, .int .i64 0, .int .i64 2000, .int .i64 2600, .bool false, .int .i64 1, .slice none 0 0] 26)
  have al3 := bel_one (w1.alloc (.cells #[.slice (some ⟨w.heap.size + 1 + 1, 0, none⟩) 3200 3200, .slice none 0 0, .int .i64 0, .int .i64 2000, .int .i64 2600, .bool false, .int .i64 1, .slice none 0 0] 26)) (.cells #[.int .i64 0, .int .i64 8, .int .i64 (-6)] 2)
  have L0 : LD w N cv cs w1.heap.size (w1.heap.size + 1) ((w1.alloc (.cells #[.slice (some ⟨w.heap.size + 1 + 1, 0, none⟩) 3200 3200, .slice none 0 0, .int .i64 0, .int .i64 2000, .int .i64 2600, .bool false, .int .i64 1, .slice none 0 0] 26)).alloc (.cells #[.int .i64 0, .int .i64 8, .int .i64 (-6)] 2)) newH (some ⟨w.heap.size + 1 + 1, 0, none⟩) none none 3200 0 0 := by
    have b3 := bel_after (bel_after hbw al2) al3
    have R0 := row_any w1 #[.slice (some ⟨w.heap.size + 1 + 1, 0, none⟩) 3200 3200, .slice none 0 0, .int .i64 0, .int .i64 2000, .int .i64 2600, .bool false, .int .i64 1, .slice none 0 0] 26
    have R1 := R0.of_block (al3.block _ R0.lt)
    have lt1 : w.heap.size < w1.heap.size := by have := hb1.size; simp at this; omega
    have nl : newH.words.length = 3200 := by simp [newH, newW]
    have RW1 := (RW0.later al2).later al3
    have nw : newH.words = List.replicate 3200 0 := rfl
    refine ⟨h.more b3 hN, h, ⟨b3.os, b3.tape, b3.output, b3.size, fun k hk _ => b3.block k hk⟩, ?_, ?_, ⟨_, RS0.of_block ((bel_after (bel_after hb1 al2) al3).block _ RS0.lt)⟩, ?_, hN, lt1, by omega, ⟨by omega, Nat.zero_le _, Nat.zero_le _⟩, nl⟩
    · refine R1.congr fun i hi => ?_
      unfold hv8
      rw [nl]
      rcases i with _ | _ | _ | _ | _ | _ | _ | _ | i
      all_goals first | rfl | (simp at hi; omega)
    · refine HM.of_owns (h := newH) (n1 := newH.words.length) rfl ?_ (n2 := 0) rfl (nil_owns _ _) (n3 := 0) rfl (nil_owns _ _) (fun b q => ⟨(fun e => by cases e), (fun e => by cases e)⟩) (fun b q e => by cases e)
      rw [nw] at *
      have q := RW1.owns (B := w.heap.size) (by omega) (by unfold maxLen; omega)
      exact q
    · have q := row_any (w1.alloc (.cells #[.slice (some ⟨w.heap.size + 1 + 1, 0, none⟩) 3200 3200, .slice none 0 0, .int .i64 0, .int .i64 2000, .int .i64 2600, .bool false, .int .i64 1, .slice none 0 0] 26)) #[.int .i64 0, .int .i64 8, .int .i64 (-6)] 2
      rw [World.size_alloc] at q
      refine ⟨_, q, by simp, fun i hi => ?_⟩
      simp only [List.length_cons, List.length_nil] at hi
      rcases i with _ | _ | _ | i
      · rfl
      · rfl
      · rfl
      · omega
  have B0 := L0.dw.less 24 (by omega) (by omega)
  clear RW0 hb1 hb1' hbw al al2 al3 RS0 NH
  go_wp2_with fail
  refine B0.mono ?_
  rintro x w3 ⟨⟨z, rfl, z0, z1⟩, g3, d3⟩
  have L1 := L0.step ⟨g3, d3⟩
  clear B0 g3 d3 L0
  obtain ⟨cn, rfl⟩ := Int.eq_ofNat_of_zero_le z0
  generalize w1.heap.size + 1 = gQ at *
  generalize hHH : w1.heap.size = H at *
  clear hHH
  go_wp2
  go_loopw [5] (fun nv wr => ∃ (j : Nat) (t : Hp) (p1 p2 p3 : Option Addr) (e1 e2 e3 : Nat), nv = .int .i64 j ∧ j ≤ 24 ∧ LD w N cv cs H gQ wr t p1 p2 p3 e1 e2 e3) (fun nv _ => (intOf nv).toNat)
  case atStart => exact ⟨cn, _, _, _, _, _, _, _, rfl, by omega, L1⟩
  case round =>
    clear L1
    obtain ⟨j, t, p1, p2, p3, e1, e2, e3, rfl, hj, D⟩ := hrel
    obtain ⟨c0, c1, c2, c3, c4, c5, c6, c7⟩ := hv8_cells D.row
    by_cases hlt : 0 < j
    · have hlt' : (0 : Int) < (j : Int) := by omega
      have A0 := l5All_any _ t wr D.hm.hr
      have jm : Hid (∀ x, ((j : Int) - 1) = x → ∃ i : Nat, x = i ∧ i ≤ 24 ∧ i < j) := fun x e => ⟨j - 1, by omega, by omega, by omega⟩
      refine wp_seq_k fun K1 hK1 => ?_
      have hk1 : Hid _ := hK1
      clear hK1
      go_wp2
      refine hk1.out _ _ ?_
      refine wp_seq_k fun K2 hK2 => ?_
      have hk2 : Hid _ := hK2
      clear hK2
      refine wp_block ?_
      refine wp_seq_k fun K3 hK3 => ?_
      have hk3 : Hid _ := hK3
      clear hK3
      go_wp2_with fail
      refine A0.mono ?_
      rintro e w4 ⟨⟨l, lv, ls, rfl, OL, -⟩, hb4⟩
      have D4 := D.later hb4
      obtain ⟨la, lc, rfl, hlc⟩ := intsI (IR_of_owns' OL)
      have al5 := bel_one w4 (.cells #[] 2)
      have E5 : RI (w4.alloc (.cells #[] 2)) w4.heap.size [] 0 := empty_at rfl
      have I5 := (D4.wd.later al5).ir (cap := 3) (Nat.le_refl _)
      have s5 : (w4.alloc (.cells #[] 2)).heap.size = w4.heap.size + 1 := by simp
      clear A0 c0 c1 c2 c3 c4 c5 c6 c7 D hb4 OL
      go_wp2
      refine hk3.out _ _ ?_
      refine wp_seq_k fun K4 hK4 => ?_
      have hk4 : Hid _ := hK4
      clear hK4
      go_wp2_with (at_builtin; refine app_ri _ rfl _ _ rfl w4.heap.size 0 0 [] rfl rfl E5 (Nat.zero_le _) (Nat.zero_le _) (some ⟨gQ, 0, none⟩) 3 3 [0, 8, -6] rfl rfl I5 (by simp) ?_; intro g6 d6 w6 P6 G6 wh6 mx6; rw [List.nil_append] at P6)
      have B46 : Below w4.heap.size w4 w6 := Below.grown al5 G6 (by rw [s5]; omega) (fun k hk => by cases hk; exact Nat.le_refl _)
      have g6b : w4.heap.size ≤ g6 := by rcases wh6 with e | e <;> omega
      clear E5 I5 G6 wh6 al5
      refine hk4.out _ _ ?_
      refine wp_seq_k fun K5 hK5 => ?_
      have hk5 : Hid _ := hK5
      clear hK5
      go_wp2
      go_loopw [7, 8] (fun rv iv wr => ∃ (i g c : Nat) (m : List Int), i ≤ l.length ∧ iv = .int .i64 i ∧ rv = .slice (some ⟨g, 0, none⟩) (3 + i) c ∧ m.length = 3 + i ∧ Hid (∀ x, x ∈ m → In64 x) ∧ RI wr g m c ∧ c ≤ maxLen ∧ w4.heap.size ≤ g ∧ Below w4.heap.size w4 wr) (fun _ iv _ => l.length - (intOf iv).toNat)
      case atStart => exact ⟨0, g6, d6, [0, 8, -6], Nat.zero_le _, rfl, rfl, rfl, (fun x hx => by unfold In64; simp at hx; omega : ∀ x, x ∈ [0, 8, -6] → In64 x), P6, mx6, g6b, B46⟩
      case round =>
        clear P6 B46 mx6 g6b
        obtain ⟨i, g, c, m, hi, rfl, rfl, hml, hin, RM, mxc, hg, hb⟩ := hrel
        replace hml : Hid (m.length = 3 + i) := hml
        by_cases hil : i < l.length
        · have hil' : (i : Int) < (l.length : Int) := by omega
          obtain ⟨lb, lo, rfl, cl⟩ := hlc i hil
          have cl2 := cell_later hb cl
          generalize l.getD i 0 = a at *
          have al7 := fun y : Int => bel_one wr (.cells #[.int .i64 y] 2)
          have R7 := fun y => RM.later (al7 y)
          have sz7 : ∀ y : Int, (wr.alloc (.cells #[.int .i64 y] 2)).heap.size = wr.heap.size + 1 := fun y => by simp
          have I7 : ∀ y : Int, IR (wr.alloc (.cells #[.int .i64 y] 2)) (.slice (some ⟨wr.heap.size, 0, none⟩) 1 1) [y] := fun y => ⟨_, _, rfl, Nat.le_refl _, fun k hk => ⟨wr.heap.size, 0, rfl, by
            simp only [List.length_singleton] at hk
            obtain rfl : k = 0 := by omega
            simp⟩⟩
          have hb7 := fun y => hb.trans ((al7 y).mono hb.size)
          have szr := hb.size
          clear hlc cl D4
          go_wp2_with (at_builtin; refine app_ri _ rfl _ _ rfl g c (3 + i) m rfl hml.out.symm (R7 _) (by rw [hml.out]; omega) mxc (some ⟨wr.heap.size, 0, none⟩) 1 1 [wrap64 (wrap64 (2 * (a : Int)) + 1)] rfl rfl (I7 _) (by simp) ?_; intro g8 d8 w8 P8 G8 wh8 mx8)
          refine ⟨⟨i + 1, g8, d8, m ++ [wrap64 (wrap64 (2 * (a : Int)) + 1)], by omega, by go_num, rfl, by rw [List.length_append, hml.out]; rfl, (fun x hx => ?_ : ∀ x, x ∈ m ++ [wrap64 (wrap64 (2 * (a : Int)) + 1)] → In64 x), P8, mx8, by rw [sz7] at wh8; rcases wh8 with e | e <;> omega, Below.grown (hb7 _) G8 (by rw [sz7]; omega) (fun k hk => by cases hk; exact hg)⟩, by simp [intOf]; omega⟩
          rw [List.mem_append, List.mem_singleton] at hx
          rcases hx with hx | rfl
          · exact hin.out x hx
          · exact wrap_in _
        · obtain rfl : i = l.length := by omega
          have nil' : ¬ (l.length : Int) < (l.length : Int) := by omega
          have D5 := D4.later hb
          have szr := hb.size
          have sz4 := D4.gr.size
          have B5 := D5.dw.less ((3 + l.length : Nat) : Int) (by omega) (by omega)
          clear hlc D4
          go_wp2
          refine hk5.out _ _ ?_
          refine wp_seq_k fun K6 hK6 => ?_
          have hk6 : Hid _ := hK6
          clear hK6
          go_wp2_with fail
          refine B5.mono ?_
          rintro x w5 ⟨⟨z, rfl, z0, z1⟩, g5, d5⟩
          obtain ⟨k, rfl⟩ := Int.eq_ofNat_of_zero_le z0
          have D6 := D5.step ⟨g5, d5⟩
          have nN : some g ≠ some N := fun e => by injection e; omega
          have RM5 := RM.grown g5 nN
          have hkl : k < m.length := by rw [hml.out]; omega
          have ck := RM5.cell (i := k) hkl
          have xin := hin.out (m.getD k 0) (by simp [hkl])
          generalize m.getD k 0 = x at *
          have kI : (k : Int) < ((3 + l.length : Nat) : Int) := by omega
          have B6 := D6.dw.less 9 (by omega) (by omega)
          clear B5 D5 g5 d5 RM
          go_wp2
          refine hk6.out _ _ ?_
          refine wp_seq_k fun K7 hK7 => ?_
          have hk7 : Hid _ := hK7
          clear hK7
          go_wp2_with fail
          refine B6.mono ?_
          rintro y w6 ⟨⟨z, rfl, z0, z1⟩, g6, d6⟩
          have D7 := D6.step ⟨g6, d6⟩
          have RM7 := RM5.grown g6 nN
          have hx : In64 x := xin
          clear B6 D6 g6 d6 RM5 hb ck
          have jv : Hid (Value.int .i64 ((j : Int) - 1) = .int .i64 ((j - 1 : Nat) : Int)) := (by rw [show ((j - 1 : Nat) : Int) = (j : Int) - 1 from by omega] : Value.int .i64 ((j : Int) - 1) = .int .i64 ((j - 1 : Nat) : Int))
          have hjw : (j : Int) ≤ 24 := by omega
          go_wp2
          refine hk7.out _ _ ?_
          rcases (show z = 0 ∨ z = 1 ∨ z = 2 ∨ z = 3 ∨ z = 4 ∨ z = 5 ∨ z = 6 ∨ z = 7 ∨ z = 8 from by omega) with rfl | rfl | rfl | rfl | rfl | rfl | rfl | rfl | rfl
          · refine sw0 ls RM7 hml hin nN hx hN D7 _ _ _ _ _ _ _ _ _ _ _ _ _ _ _ _ _ _ _ _ _ _ _ _ _ _ _ _ _ _ _ _ _ _ _ _ _ _ _ _ _ _ _ _ _ _ _ _ _ _ _ _ _ _ _ _ _ _ _ _ _ _ _ _ _ _ _ _ _ _ _ _ _ _ _ _ _ _ _ _ _ _ _ _ _ _ _ _ _ _ _ _ _ _ _ _ _ _ _ _ _ _ _ _ _ _ _ _ _ _ _ _ _ _ _ _ _ _ _ _ _ _ _ _ _ _ _ _ _ _ _ _ _ _ _ _ _ _ _ _ _ _ _ _ _ _ _ _ _ _ _ _ _ _ _ _ _ _ _ _ _ _ _ _ _ _ _ _ _ _ _ _ _ _ _ _ _ _ _ _ _ _ _ _ _ _ _ _ _ _ _ _ _ _ _ _ _ _ _ _ _ _ _ ?_
            unfold Hid
            intro t' q1 q2 q3 f1 f2 f3 w9 x10 x11 x12 x13 x14 x15 x16 x17 x18 x19 x20 x21 x22 x23 x24 x25 x70 x71 x72 x73 x74 x75 x76 x77 x78 x79 x80 x81 x82 x83 x84 x85 x86 x87 x88 x89 x90 x91 x92 x93 x94 x95 x96 x97 x98 x99 x100 x101 x102 x103 x104 x105 x106 x107 x108 x109 x110 x111 x112 x113 x114 x115 x116 x117 x118 x119 x120 x121 x122 x123 x124 x125 x126 x127 x128 x129 x130 x131 x132 x133 x134 x135 x136 x137 x138 x139 x140 x141 x142 x143 x144 x145 x146 x147 x148 x149 x150 x151 x152 x153 x154 x155 x156 x157 x158 x159 x160 x161 x162 x163 x164 D9
            refine hk2.out _ _ ?_
            go_wp2
            exact ⟨⟨j - 1, _, _, _, _, _, _, _, jv.out, by omega, D9⟩, by simp [intOf]; omega⟩
          · refine sw1 ls RM7 hml hin nN hx hN D7 _ _ _ _ _ _ _ _ _ _ _ _ _ _ _ _ _ _ _ _ _ _ _ _ _ _ _ _ _ _ _ _ _ _ _ _ _ _ _ _ _ _ _ _ _ _ _ _ _ _ _ _ _ _ _ _ _ _ _ _ _ _ _ _ _ _ _ _ _ _ _ _ _ _ _ _ _ _ _ _ _ _ _ _ _ _ _ _ _ _ _ _ _ _ _ _ _ _ _ _ _ _ _ _ _ _ _ _ _ _ _ _ _ _ _ _ _ _ _ _ _ _ _ _ _ _ _ _ _ _ _ _ _ _ _ _ _ _ _ _ _ _ _ _ _ _ _ _ _ _ _ _ _ _ _ _ _ _ _ _ _ _ _ _ _ _ _ _ _ _ _ _ _ _ _ _ _ _ _ _ _ _ _ _ _ _ _ _ _ _ _ _ _ _ _ _ _ _ _ _ _ _ _ ?_
            unfold Hid
            intro t' q1 q2 q3 f1 f2 f3 w9 x10 x11 x12 x13 x14 x15 x16 x17 x18 x19 x20 x21 x22 x23 x24 x25 x70 x71 x72 x73 x74 x75 x76 x77 x78 x79 x80 x81 x82 x83 x84 x85 x86 x87 x88 x89 x90 x91 x92 x93 x94 x95 x96 x97 x98 x99 x100 x101 x102 x103 x104 x105 x106 x107 x108 x109 x110 x111 x112 x113 x114 x115 x116 x117 x118 x119 x120 x121 x122 x123 x124 x125 x126 x127 x128 x129 x130 x131 x132 x133 x134 x135 x136 x137 x138 x139 x140 x141 x142 x143 x144 x145 x146 x147 x148 x149 x150 x151 x152 x153 x154 x155 x156 x157 x158 x159 x160 x161 x162 x163 x164 D9
            refine hk2.out _ _ ?_
            go_wp2
            exact ⟨⟨j - 1, _, _, _, _, _, _, _, jv.out, by omega, D9⟩, by simp [intOf]; omega⟩
          · refine sw2 ls RM7 hml hin nN hx hN D7 _ _ _ _ _ _ _ _ _ _ _ _ _ _ _ _ _ _ _ _ _ _ _ _ _ _ _ _ _ _ _ _ _ _ _ _ _ _ _ _ _ _ _ _ _ _ _ _ _ _ _ _ _ _ _ _ _ _ _ _ _ _ _ _ _ _ _ _ _ _ _ _ _ _ _ _ _ _ _ _ _ _ _ _ _ _ _ _ _ _ _ _ _ _ _ _ _ _ _ _ _ _ _ _ _ _ _ _ _ _ _ _ _ _ _ _ _ _ _ _ _ _ _ _ _ _ _ _ _ _ _ _ _ _ _ _ _ _ _ _ _ _ _ _ _ _ _ _ _ _ _ _ _ _ _ _ _ _ _ _ _ _ _ _ _ _ _ _ _ _ _ _ _ _ _ _ _ _ _ _ _ _ _ _ _ _ _ _ _ _ _ _ _ _ _ _ _ _ _ _ _ _ _ ?_
            unfold Hid
            intro t' q1 q2 q3 f1 f2 f3 w9 x10 x11 x12 x13 x14 x15 x16 x17 x18 x19 x20 x21 x22 x23 x24 x25 x70 x71 x72 x73 x74 x75 x76 x77 x78 x79 x80 x81 x82 x83 x84 x85 x86 x87 x88 x89 x90 x91 x92 x93 x94 x95 x96 x97 x98 x99 x100 x101 x102 x103 x104 x105 x106 x107 x108 x109 x110 x111 x112 x113 x114 x115 x116 x117 x118 x119 x120 x121 x122 x123 x124 x125 x126 x127 x128 x129 x130 x131 x132 x133 x134 x135 x136 x137 x138 x139 x140 x141 x142 x143 x144 x145 x146 x147 x148 x149 x150 x151 x152 x153 x154 x155 x156 x157 x158 x159 x160 x161 x162 x163 x164 D9
            refine hk2.out _ _ ?_
            go_wp2
            exact ⟨⟨j - 1, _, _, _, _, _, _, _, jv.out, by omega, D9⟩, by simp [intOf]; omega⟩
          · refine sw3 ls RM7 hml hin nN hx hN D7 _ _ _ _ _ _ _ _ _ _ _ _ _ _ _ _ _ _ _ _ _ _ _ _ _ _ _ _ _ _ _ _ _ _ _ _ _ _ _ _ _ _ _ _ _ _ _ _ _ _ _ _ _ _ _ _ _ _ _ _ _ _ _ _ _ _ _ _ _ _ _ _ _ _ _ _ _ _ _ _ _ _ _ _ _ _ _ _ _ _ _ _ _ _ _ _ _ _ _ _ _ _ _ _ _ _ _ _ _ _ _ _ _ _ _ _ _ _ _ _ _ _ _ _ _ _ _ _ _ _ _ _ _ _ _ _ _ _ _ _ _ _ _ _ _ _ _ _ _ _ _ _ _ _ _ _ _ _ _ _ _ _ _ _ _ _ _ _ _ _ _ _ _ _ _ _ _ _ _ _ _ _ _ _ _ _ _ _ _ _ _ _ _ _ _ _ _ _ _ _ _ _ _ ?_
            unfold Hid
            intro t' q1 q2 q3 f1 f2 f3 w9 x10 x11 x12 x13 x14 x15 x16 x17 x18 x19 x20 x21 x22 x23 x24 x25 x70 x71 x72 x73 x74 x75 x76 x77 x78 x79 x80 x81 x82 x83 x84 x85 x86 x87 x88 x89 x90 x91 x92 x93 x94 x95 x96 x97 x98 x99 x100 x101 x102 x103 x104 x105 x106 x107 x108 x109 x110 x111 x112 x113 x114 x115 x116 x117 x118 x119 x120 x121 x122 x123 x124 x125 x126 x127 x128 x129 x130 x131 x132 x133 x134 x135 x136 x137 x138 x139 x140 x141 x142 x143 x144 x145 x146 x147 x148 x149 x150 x151 x152 x153 x154 x155 x156 x157 x158 x159 x160 x161 x162 x163 x164 D9
            refine hk2.out _ _ ?_
            go_wp2
            exact ⟨⟨j - 1, _, _, _, _, _, _, _, jv.out, by omega, D9⟩, by simp [intOf]; omega⟩
          · refine sw4 ls RM7 hml hin nN hx hN D7 _ _ _ _ _ _ _ _ _ _ _ _ _ _ _ _ _ _ _ _ _ _ _ _ _ _ _ _ _ _ _ _ _ _ _ _ _ _ _ _ _ _ _ _ _ _ _ _ _ _ _ _ _ _ _ _ _ _ _ _ _ _ _ _ _ _ _ _ _ _ _ _ _ _ _ _ _ _ _ _ _ _ _ _ _ _ _ _ _ _ _ _ _ _ _ _ _ _ _ _ _ _ _ _ _ _ _ _ _ _ _ _ _ _ _ _ _ _ _ _ _ _ _ _ _ _ _ _ _ _ _ _ _ _ _ _ _ _ _ _ _ _ _ _ _ _ _ _ _ _ _ _ _ _ _ _ _ _ _ _ _ _ _ _ _ _ _ _ _ _ _ _ _ _ _ _ _ _ _ _ _ _ _ _ _ _ _ _ _ _ _ _ _ _ _ _ _ _ _ _ _ _ _ ?_
            unfold Hid
            intro t' q1 q2 q3 f1 f2 f3 w9 x10 x11 x12 x13 x14 x15 x16 x17 x18 x19 x20 x21 x22 x23 x24 x25 x70 x71 x72 x73 x74 x75 x76 x77 x78 x79 x80 x81 x82 x83 x84 x85 x86 x87 x88 x89 x90 x91 x92 x93 x94 x95 x96 x97 x98 x99 x100 x101 x102 x103 x104 x105 x106 x107 x108 x109 x110 x111 x112 x113 x114 x115 x116 x117 x118 x119 x120 x121 x122 x123 x124 x125 x126 x127 x128 x129 x130 x131 x132 x133 x134 x135 x136 x137 x138 x139 x140 x141 x142 x143 x144 x145 x146 x147 x148 x149 x150 x151 x152 x153 x154 x155 x156 x157 x158 x159 x160 x161 x162 x163 x164 D9
            refine hk2.out _ _ ?_
            go_wp2
            exact ⟨⟨j - 1, _, _, _, _, _, _, _, jv.out, by omega, D9⟩, by simp [intOf]; omega⟩
          · refine sw5 ls RM7 hml hin nN hx hN D7 _ _ _ _ _ _ _ _ _ _ _ _ _ _ _ _ _ _ _ _ _ _ _ _ _ _ _ _ _ _ _ _ _ _ _ _ _ _ _ _ _ _ _ _ _ _ _ _ _ _ _ _ _ _ _ _ _ _ _ _ _ _ _ _ _ _ _ _ _ _ _ _ _ _ _ _ _ _ _ _ _ _ _ _ _ _ _ _ _ _ _ _ _ _ _ _ _ _ _ _ _ _ _ _ _ _ _ _ _ _ _ _ _ _ _ _ _ _ _ _ _ _ _ _ _ _ _ _ _ _ _ _ _ _ _ _ _ _ _ _ _ _ _ _ _ _ _ _ _ _ _ _ _ _ _ _ _ _ _ _ _ _ _ _ _ _ _ _ _ _ _ _ _ _ _ _ _ _ _ _ _ _ _ _ _ _ _ _ _ _ _ _ _ _ _ _ _ _ _ _ _ _ _ ?_
            unfold Hid
            intro t' q1 q2 q3 f1 f2 f3 w9 x10 x11 x12 x13 x14 x15 x16 x17 x18 x19 x20 x21 x22 x23 x24 x25 x70 x71 x72 x73 x74 x75 x76 x77 x78 x79 x80 x81 x82 x83 x84 x85 x86 x87 x88 x89 x90 x91 x92 x93 x94 x95 x96 x97 x98 x99 x100 x101 x102 x103 x104 x105 x106 x107 x108 x109 x110 x111 x112 x113 x114 x115 x116 x117 x118 x119 x120 x121 x122 x123 x124 x125 x126 x127 x128 x129 x130 x131 x132 x133 x134 x135 x136 x137 x138 x139 x140 x141 x142 x143 x144 x145 x146 x147 x148 x149 x150 x151 x152 x153 x154 x155 x156 x157 x158 x159 x160 x161 x162 x163 x164 D9
            refine hk2.out _ _ ?_
            go_wp2
            exact ⟨⟨j - 1, _, _, _, _, _, _, _, jv.out, by omega, D9⟩, by simp [intOf]; omega⟩
          · refine sw6 ls RM7 hml hin nN hx hN D7 _ _ _ _ _ _ _ _ _ _ _ _ _ _ _ _ _ _ _ _ _ _ _ _ _ _ _ _ _ _ _ _ _ _ _ _ _ _ _ _ _ _ _ _ _ _ _ _ _ _ _ _ _ _ _ _ _ _ _ _ _ _ _ _ _ _ _ _ _ _ _ _ _ _ _ _ _ _ _ _ _ _ _ _ _ _ _ _ _ _ _ _ _ _ _ _ _ _ _ _ _ _ _ _ _ _ _ _ _ _ _ _ _ _ _ _ _ _ _ _ _ _ _ _ _ _ _ _ _ _ _ _ _ _ _ _ _ _ _ _ _ _ _ _ _ _ _ _ _ _ _ _ _ _ _ _ _ _ _ _ _ _ _ _ _ _ _ _ _ _ _ _ _ _ _ _ _ _ _ _ _ _ _ _ _ _ _ _ _ _ _ _ _ _ _ _ _ _ _ _ _ _ _ ?_
            unfold Hid
            intro t' q1 q2 q3 f1 f2 f3 w9 x10 x11 x12 x13 x14 x15 x16 x17 x18 x19 x20 x21 x22 x23 x24 x25 x70 x71 x72 x73 x74 x75 x76 x77 x78 x79 x80 x81 x82 x83 x84 x85 x86 x87 x88 x89 x90 x91 x92 x93 x94 x95 x96 x97 x98 x99 x100 x101 x102 x103 x104 x105 x106 x107 x108 x109 x110 x111 x112 x113 x114 x115 x116 x117 x118 x119 x120 x121 x122 x123 x124 x125 x126 x127 x128 x129 x130 x131 x132 x133 x134 x135 x136 x137 x138 x139 x140 x141 x142 x143 x144 x145 x146 x147 x148 x149 x150 x151 x152 x153 x154 x155 x156 x157 x158 x159 x160 x161 x162 x163 x164 D9
            refine hk2.out _ _ ?_
            go_wp2
            exact ⟨⟨j - 1, _, _, _, _, _, _, _, jv.out, by omega, D9⟩, by simp [intOf]; omega⟩
          · refine sw7 ls RM7 hml hin nN hx hN D7 _ _ _ _ _ _ _ _ _ _ _ _ _ _ _ _ _ _ _ _ _ _ _ _ _ _ _ _ _ _ _ _ _ _ _ _ _ _ _ _ _ _ _ _ _ _ _ _ _ _ _ _ _ _ _ _ _ _ _ _ _ _ _ _ _ _ _ _ _ _ _ _ _ _ _ _ _ _ _ _ _ _ _ _ _ _ _ _ _ _ _ _ _ _ _ _ _ _ _ _ _ _ _ _ _ _ _ _ _ _ _ _ _ _ _ _ _ _ _ _ _ _ _ _ _ _ _ _ _ _ _ _ _ _ _ _ _ _ _ _ _ _ _ _ _ _ _ _ _ _ _ _ _ _ _ _ _ _ _ _ _ _ _ _ _ _ _ _ _ _ _ _ _ _ _ _ _ _ _ _ _ _ _ _ _ _ _ _ _ _ _ _ _ _ _ _ _ _ _ _ _ _ _ ?_
            unfold Hid
            intro t' q1 q2 q3 f1 f2 f3 w9 x10 x11 x12 x13 x14 x15 x16 x17 x18 x19 x20 x21 x22 x23 x24 x25 x70 x71 x72 x73 x74 x75 x76 x77 x78 x79 x80 x81 x82 x83 x84 x85 x86 x87 x88 x89 x90 x91 x92 x93 x94 x95 x96 x97 x98 x99 x100 x101 x102 x103 x104 x105 x106 x107 x108 x109 x110 x111 x112 x113 x114 x115 x116 x117 x118 x119 x120 x121 x122 x123 x124 x125 x126 x127 x128 x129 x130 x131 x132 x133 x134 x135 x136 x137 x138 x139 x140 x141 x142 x143 x144 x145 x146 x147 x148 x149 x150 x151 x152 x153 x154 x155 x156 x157 x158 x159 x160 x161 x162 x163 x164 D9
            refine hk2.out _ _ ?_
            go_wp2
            exact ⟨⟨j - 1, _, _, _, _, _, _, _, jv.out, by omega, D9⟩, by simp [intOf]; omega⟩
          · refine sw8 ls RM7 hml hin nN hx hN D7 _ _ _ _ _ _ _ _ _ _ _ _ _ _ _ _ _ _ _ _ _ _ _ _ _ _ _ _ _ _ _ _ _ _ _ _ _ _ _ _ _ _ _ _ _ _ _ _ _ _ _ _ _ _ _ _ _ _ _ _ _ _ _ _ _ _ _ _ _ _ _ _ _ _ _ _ _ _ _ _ _ _ _ _ _ _ _ _ _ _ _ _ _ _ _ _ _ _ _ _ _ _ _ _ _ _ _ _ _ _ _ _ _ _ _ _ _ _ _ _ _ _ _ _ _ _ _ _ _ _ _ _ _ _ _ _ _ _ _ _ _ _ _ _ _ _ _ _ _ _ _ _ _ _ _ _ _ _ _ _ _ _ _ _ _ _ _ _ _ _ _ _ _ _ _ _ _ _ _ _ _ _ _ _ _ _ _ _ _ _ _ _ _ _ _ _ _ _ _ _ _ _ _ ?_
            unfold Hid
            intro t' q1 q2 q3 f1 f2 f3 w9 x10 x11 x12 x13 x14 x15 x16 x17 x18 x19 x20 x21 x22 x23 x24 x25 x70 x71 x72 x73 x74 x75 x76 x77 x78 x79 x80 x81 x82 x83 x84 x85 x86 x87 x88 x89 x90 x91 x92 x93 x94 x95 x96 x97 x98 x99 x100 x101 x102 x103 x104 x105 x106 x107 x108 x109 x110 x111 x112 x113 x114 x115 x116 x117 x118 x119 x120 x121 x122 x123 x124 x125 x126 x127 x128 x129 x130 x131 x132 x133 x134 x135 x136 x137 x138 x139 x140 x141 x142 x143 x144 x145 x146 x147 x148 x149 x150 x151 x152 x153 x154 x155 x156 x157 x158 x159 x160 x161 x162 x163 x164 D9
            refine hk2.out _ _ ?_
            go_wp2
            exact ⟨⟨j - 1, _, _, _, _, _, _, _, jv.out, by omega, D9⟩, by simp [intOf]; omega⟩
    · obtain rfl : j = 0 := by omega
      have hj0 : ¬ (0 : Int) < ((0 : Nat) : Int) := by omega
      clear hlt c0 c1 c2 c3 c4 c5 c6 c7
      have BO := D.dw.once 20 (by omega) (by omega)
      go_wp2_with fail
      refine BO.mono ?_
      rintro x wO ⟨⟨bo, rfl⟩, go, dO⟩
      have DX := D.step ⟨go, dO⟩
      clear BO go dO D
      cases bo
      · have BP := DX.dw.once 12 (by omega) (by omega)
        go_wp2_with fail
        refine BP.mono ?_
        rintro x wP ⟨⟨bp, rfl⟩, gp, dP⟩
        have D2 := DX.step ⟨gp, dP⟩
        clear BP gp dP DX
        cases bp
        · obtain ⟨c0, c1, c2, c3, c4, c5, c6, c7⟩ := hv8_cells D2.row
          obtain ⟨fR, FR⟩ := D2.res
          have OKC : (#[.slice p1 t.words.length e1, .slice p2 t.roots.length e2, .int .i64 t.old, .int .i64 t.eden, .int .i64 t.surv, .bool t.flip, .int .i64 t.hash, .slice p3 t.kept.length e3] : Array Value).all (·.oneCell') = true := by simp [Value.oneCell']
          go_wp2_with ((with_reducible refine store_box _ ?_ (.tmp 2) (.tmp 207) 26 ?_ 26 w.heap.size 8 #[.slice p1 t.words.length e1, .slice p2 t.roots.length e2, .int .i64 t.old, .int .i64 t.eden, .int .i64 t.surv, .bool t.flip, .int .i64 t.hash, .slice p3 t.kept.length e3] _ ?_ ?_ FR ?_ ?_ OKC ?_); rfl; rfl; rfl; rfl; rfl; kernel_rfl; intro w9 F9 G9)
          obtain ⟨r0, r1, r2, r3, r4, r5, r6, r7⟩ := hv8_cells (t := t) (p1 := p1) (p2 := p2) (p3 := p3) (e1 := e1) (e2 := e2) (e3 := e3) F9
          exact bodyPost_ret (v := .agg #[.slice p1 t.words.length e1, .slice p2 t.roots.length e2, .int .i64 t.old, .int .i64 t.eden, .int .i64 t.surv, .bool t.flip, .int .i64 t.hash, .slice p3 t.kept.length e3]) (by simp [results, Tryz.results66, go_sem, r0, r1, r2, r3, r4, r5, r6, r7]) rfl (D2.done G9)
        · have B2 := D2.dw.less 14 (by omega) (by omega)
          go_wp2_with fail
          refine B2.mono ?_
          rintro x w3 ⟨⟨z, rfl, z0, z1⟩, g3, d3⟩
          have D3 := D2.step ⟨g3, d3⟩
          clear B2 g3 d3 D2
          obtain ⟨cn, rfl⟩ := Int.eq_ofNat_of_zero_le z0
          go_wp2
          go_loopw [29] (fun nv wr => ∃ (j : Nat) (t : Hp) (p1 p2 p3 : Option Addr) (e1 e2 e3 : Nat), nv = .int .i64 j ∧ j ≤ 24 ∧ LD w N cv cs H gQ wr t p1 p2 p3 e1 e2 e3) (fun nv _ => (intOf nv).toNat)
          case atStart => exact ⟨cn, _, _, _, _, _, _, _, rfl, by omega, D3⟩
          case round =>
            clear D3
            obtain ⟨j, t, p1, p2, p3, e1, e2, e3, rfl, hj, D⟩ := hrel
            have c1 := (hv8_cells D.row).2.1
            by_cases hlt : 0 < j
            · have hlt' : (0 : Int) < (j : Int) := by omega
              have jv : Hid (Value.int .i64 ((j : Int) - 1) = .int .i64 ((j - 1 : Nat) : Int)) := (by rw [show ((j - 1 : Nat) : Int) = (j : Int) - 1 from by omega] : Value.int .i64 ((j : Int) - 1) = .int .i64 ((j - 1 : Nat) : Int))
              by_cases hr : t.roots.length < 20
              · have hr' : (t.roots.length : Int) < 20 := by omega
                go_wp2_with fail
                refine reg56  hN D _ _ _ _ _ _ _ _ _ _ _ _ _ _ _ _ _ _ _ _ _ _ _ _ _ _ _ _ _ _ _ _ _ _ _ _ _ _ _ _ _ _ _ _ _ _ _ _ _ _ _ _ _ _ _ _ _ _ _ _ _ _ _ _ _ _ _ _ _ _ _ _ _ _ _ _ _ _ _ _ _ _ _ _ _ _ _ _ _ _ _ _ _ _ _ _ _ _ _ _ _ _ _ _ _ _ _ _ _ _ _ _ _ _ _ _ _ _ _ _ _ _ _ _ _ _ _ _ _ _ _ _ _ _ _ _ _ _ _ _ _ _ _ _ _ _ _ _ _ _ _ _ _ _ _ _ _ _ _ _ _ _ _ _ _ _ _ _ _ _ _ _ _ _ _ _ _ _ _ _ _ _ _ _ _ _ _ _ _ _ _ _ _ _ _ _ _ _ _ _ _ _ _ _ _ _ ?_
                intro SB t' q1 q2 q3 f1 f2 f3 r b w8 x190 x191 x192 x193 x194 x195 x196 x197 x198 D8 X8 rin wl an
                (
                  clear D c1
                  cases b
                  · obtain ⟨c0, c1, c2, c3, c4, c5, c6, c7⟩ := hv8_cells D8.row
                    obtain ⟨fR, FR⟩ := D8.res
                    have OKC : (#[.slice p1 t.words.length e1, .slice p2 t.roots.length e2, .int .i64 t.old, .int .i64 t.eden, .int .i64 t.surv, .bool t.flip, .int .i64 t.hash, .slice p3 t.kept.length e3] : Array Value).all (·.oneCell') = true := by simp [Value.oneCell']
                    go_wp2_with ((with_reducible refine store_box _ ?_ (.tmp 2) (.tmp 207) 26 ?_ 26 w.heap.size 8 #[.slice p1 t.words.length e1, .slice p2 t.roots.length e2, .int .i64 t.old, .int .i64 t.eden, .int .i64 t.surv, .bool t.flip, .int .i64 t.hash, .slice p3 t.kept.length e3] _ ?_ ?_ FR ?_ ?_ OKC ?_); rfl; rfl; rfl; rfl; rfl; kernel_rfl; intro w9 F9 G9)
                    obtain ⟨r0, r1, r2, r3, r4, r5, r6, r7⟩ := hv8_cells (t := t) (p1 := p1) (p2 := p2) (p3 := p3) (e1 := e1) (e2 := e2) (e3 := e3) F9
                    exact bodyPost_ret (v := .agg #[.slice p1 t.words.length e1, .slice p2 t.roots.length e2, .int .i64 t.old, .int .i64 t.eden, .int .i64 t.surv, .bool t.flip, .int .i64 t.hash, .slice p3 t.kept.length e3]) (by simp [results, Tryz.results66, go_sem, r0, r1, r2, r3, r4, r5, r6, r7]) rfl (D8.done G9)
                  · obtain ⟨x0, x1, x2, x3, x4, x5, x6, x7⟩ := hv8_cells X8.row
                    have KC := kAddN X8.hm.hr X8.sm r rin (an.out (by simp) hr)
                    go_wp2_with fail
                    refine KC.mono ?_
                    rintro e wK ⟨⟨u, t2, rfl, HU, su, wl2⟩, hbk⟩
                    replace wl2 : Hid (t2.words.length = 3200) := wl2
                    obtain ⟨s1, s2, s3, h1, h2, h3, rfl⟩ := HU.shape
                    have DK := D8.later hbk
                    have HK := HU.low (C := w.heap.size) D8.gr.size
                    have OKC : (#[.slice s1 t2.words.length h1, .slice s2 t2.roots.length h2, .int .i64 t2.old, .int .i64 t2.eden, .int .i64 t2.surv, .bool t2.flip, .int .i64 t2.hash, .slice s3 t2.kept.length h3] : Array Value).all (·.oneCell') = true := by simp [Value.oneCell']
                    clear KC hbk HU x0 x1 x2 x3 x4 x5 x6 x7 X8
                    go_wp2_with ((with_reducible refine store_box _ ?_ (.tmp 3) (.tmp 205) 26 ?_ 26 H 8 #[.slice s1 t2.words.length h1, .slice s2 t2.roots.length h2, .int .i64 t2.old, .int .i64 t2.eden, .int .i64 t2.surv, .bool t2.flip, .int .i64 t2.hash, .slice s3 t2.kept.length h3] _ ?_ ?_ DK.row ?_ ?_ OKC ?_); rfl; rfl; rfl; rfl; rfl; kernel_rfl; intro w9 F9 G9)
                    have D9 := DK.take HK su wl2.out G9 F9
                    clear F9 G9 OKC HK DK D8
                    go_wp2
                    exact ⟨⟨j - 1, _, _, _, _, _, _, _, jv.out, by omega, D9⟩, by simp [intOf]; omega⟩
                )
              · have hr' : ¬ (t.roots.length : Int) < 20 := by omega
                obtain ⟨c0, c1, c2, c3, c4, c5, c6, c7⟩ := hv8_cells D.row
                obtain ⟨fR, FR⟩ := D.res
                have OKC : (#[.slice p1 t.words.length e1, .slice p2 t.roots.length e2, .int .i64 t.old, .int .i64 t.eden, .int .i64 t.surv, .bool t.flip, .int .i64 t.hash, .slice p3 t.kept.length e3] : Array Value).all (·.oneCell') = true := by simp [Value.oneCell']
                go_wp2_with ((with_reducible refine store_box _ ?_ (.tmp 2) (.tmp 207) 26 ?_ 26 w.heap.size 8 #[.slice p1 t.words.length e1, .slice p2 t.roots.length e2, .int .i64 t.old, .int .i64 t.eden, .int .i64 t.surv, .bool t.flip, .int .i64 t.hash, .slice p3 t.kept.length e3] _ ?_ ?_ FR ?_ ?_ OKC ?_); rfl; rfl; rfl; rfl; rfl; kernel_rfl; intro w9 F9 G9)
                obtain ⟨r0, r1, r2, r3, r4, r5, r6, r7⟩ := hv8_cells (t := t) (p1 := p1) (p2 := p2) (p3 := p3) (e1 := e1) (e2 := e2) (e3 := e3) F9
                exact bodyPost_ret (v := .agg #[.slice p1 t.words.length e1, .slice p2 t.roots.length e2, .int .i64 t.old, .int .i64 t.eden, .int .i64 t.surv, .bool t.flip, .int .i64 t.hash, .slice p3 t.kept.length e3]) (by simp [results, Tryz.results66, go_sem, r0, r1, r2, r3, r4, r5, r6, r7]) rfl (D.done G9)
            · obtain rfl : j = 0 := by omega
              have hlt' : ¬ (0 : Int) < ((0 : Nat) : Int) := by omega
              obtain ⟨c0, c1, c2, c3, c4, c5, c6, c7⟩ := hv8_cells D.row
              obtain ⟨fR, FR⟩ := D.res
              have OKC : (#[.slice p1 t.words.length e1, .slice p2 t.roots.length e2, .int .i64 t.old, .int .i64 t.eden, .int .i64 t.surv, .bool t.flip, .int .i64 t.hash, .slice p3 t.kept.length e3] : Array Value).all (·.oneCell') = true := by simp [Value.oneCell']
              go_wp2_with ((with_reducible refine store_box _ ?_ (.tmp 2) (.tmp 207) 26 ?_ 26 w.heap.size 8 #[.slice p1 t.words.length e1, .slice p2 t.roots.length e2, .int .i64 t.old, .int .i64 t.eden, .int .i64 t.surv, .bool t.flip, .int .i64 t.hash, .slice p3 t.kept.length e3] _ ?_ ?_ FR ?_ ?_ OKC ?_); rfl; rfl; rfl; rfl; rfl; kernel_rfl; intro w9 F9 G9)
              obtain ⟨r0, r1, r2, r3, r4, r5, r6, r7⟩ := hv8_cells (t := t) (p1 := p1) (p2 := p2) (p3 := p3) (e1 := e1) (e2 := e2) (e3 := e3) F9
              exact bodyPost_ret (v := .agg #[.slice p1 t.words.length e1, .slice p2 t.roots.length e2, .int .i64 t.old, .int .i64 t.eden, .int .i64 t.surv, .bool t.flip, .int .i64 t.hash, .slice p3 t.kept.length e3]) (by simp [results, Tryz.results66, go_sem, r0, r1, r2, r3, r4, r5, r6, r7]) rfl (D.done G9)
      · go_wp2
        go_loopw [] (fun wr => ∃ (t : Hp) (p1 p2 p3 : Option Addr) (e1 e2 e3 : Nat), LD w N cv cs H gQ wr t p1 p2 p3 e1 e2 e3) (fun wr => 2700 - edOf H wr)
        case atStart => exact ⟨t, _, _, _, _, _, _, DX⟩
        case round =>
          clear DX
          obtain ⟨t, p1, p2, p3, e1, e2, e3, D⟩ := hrel
          have hed := edOf_eq (hv8_cells D.row).2.2.2.1
          obtain ⟨c0, c1, c2, c3, c4, c5, c6, c7⟩ := hv8_cells D.row
          have KC := kNew D.hm.hr D.sm 7 60
          go_wp2_with fail
          refine KC.mono ?_
          rintro e w8 ⟨⟨u, r, b, t', rfl, HU, su, inr, gr, wl, an⟩, hbk⟩
          replace wl : Hid (b = true → t'.words.length = 3200) := wl
          replace an : Hid (b = true → t.roots.length < 20 → addB t' r = true) := an
          obtain ⟨q1, q2, q3, f1, f2, f3, rfl⟩ := HU.shape
          have DK := D.later hbk
          have alk := bel_one w8 (.cells #[.slice q1 t'.words.length f1, .slice q2 t'.roots.length f2, .int .i64 t'.old, .int .i64 t'.eden, .int .i64 t'.surv, .bool t'.flip, .int .i64 t'.hash, .slice q3 t'.kept.length f3] 26)
          have X9 : XB w (w8.alloc (.cells #[.slice q1 t'.words.length f1, .slice q2 t'.roots.length f2, .int .i64 t'.old, .int .i64 t'.eden, .int .i64 t'.surv, .bool t'.flip, .int .i64 t'.hash, .slice q3 t'.kept.length f3] 26)) w8.heap.size t' q1 q2 q3 f1 f2 f3 := ⟨row_any w8 #[.slice q1 t'.words.length f1, .slice q2 t'.roots.length f2, .int .i64 t'.old, .int .i64 t'.eden, .int .i64 t'.surv, .bool t'.flip, .int .i64 t'.hash, .slice q3 t'.kept.length f3] 26, (HU.low (C := w.heap.size) D.gr.size).later alk, su, Nat.lt_of_lt_of_le D.hH (Nat.le_of_lt DK.row.lt)⟩
          have D9 := DK.later alk
          clear KC hbk HU DK alk c0 c1 c2 c3 c4 c5 c6 c7 D
          replace gr : Hid (b = true → 2000 ≤ t.eden ∧ t'.eden = t.eden + 4 + 60 ∧ t'.eden ≤ 2600) := gr
          cases b
          · clear X9 gr hed
            have BP := D9.dw.once 12 (by omega) (by omega)
            go_wp2_with fail
            refine BP.mono ?_
            rintro x wP ⟨⟨bp, rfl⟩, gp, dP⟩
            have D2 := D9.step ⟨gp, dP⟩
            clear BP gp dP D9
            cases bp
            · obtain ⟨c0, c1, c2, c3, c4, c5, c6, c7⟩ := hv8_cells D2.row
              obtain ⟨fR, FR⟩ := D2.res
              have OKC : (#[.slice p1 t.words.length e1, .slice p2 t.roots.length e2, .int .i64 t.old, .int .i64 t.eden, .int .i64 t.surv, .bool t.flip, .int .i64 t.hash, .slice p3 t.kept.length e3] : Array Value).all (·.oneCell') = true := by simp [Value.oneCell']
              go_wp2_with ((with_reducible refine store_box _ ?_ (.tmp 2) (.tmp 207) 26 ?_ 26 w.heap.size 8 #[.slice p1 t.words.length e1, .slice p2 t.roots.length e2, .int .i64 t.old, .int .i64 t.eden, .int .i64 t.surv, .bool t.flip, .int .i64 t.hash, .slice p3 t.kept.length e3] _ ?_ ?_ FR ?_ ?_ OKC ?_); rfl; rfl; rfl; rfl; rfl; kernel_rfl; intro w9 F9 G9)
              obtain ⟨r0, r1, r2, r3, r4, r5, r6, r7⟩ := hv8_cells (t := t) (p1 := p1) (p2 := p2) (p3 := p3) (e1 := e1) (e2 := e2) (e3 := e3) F9
              exact bodyPost_ret (v := .agg #[.slice p1 t.words.length e1, .slice p2 t.roots.length e2, .int .i64 t.old, .int .i64 t.eden, .int .i64 t.surv, .bool t.flip, .int .i64 t.hash, .slice p3 t.kept.length e3]) (by simp [results, Tryz.results66, go_sem, r0, r1, r2, r3, r4, r5, r6, r7]) rfl (D2.done G9)
            · have B2 := D2.dw.less 14 (by omega) (by omega)
              go_wp2_with fail
              refine B2.mono ?_
              rintro x w3 ⟨⟨z, rfl, z0, z1⟩, g3, d3⟩
              have D3 := D2.step ⟨g3, d3⟩
              clear B2 g3 d3 D2
              obtain ⟨cn, rfl⟩ := Int.eq_ofNat_of_zero_le z0
              go_wp2
              go_loopw [29] (fun nv wr => ∃ (j : Nat) (t : Hp) (p1 p2 p3 : Option Addr) (e1 e2 e3 : Nat), nv = .int .i64 j ∧ j ≤ 24 ∧ LD w N cv cs H gQ wr t p1 p2 p3 e1 e2 e3) (fun nv _ => (intOf nv).toNat)
              case atStart => exact ⟨cn, _, _, _, _, _, _, _, rfl, by omega, D3⟩
              case round =>
                clear D3
                obtain ⟨j, t, p1, p2, p3, e1, e2, e3, rfl, hj, D⟩ := hrel
                have c1 := (hv8_cells D.row).2.1
                by_cases hlt : 0 < j
                · have hlt' : (0 : Int) < (j : Int) := by omega
                  have jv : Hid (Value.int .i64 ((j : Int) - 1) = .int .i64 ((j - 1 : Nat) : Int)) := (by rw [show ((j - 1 : Nat) : Int) = (j : Int) - 1 from by omega] : Value.int .i64 ((j : Int) - 1) = .int .i64 ((j - 1 : Nat) : Int))
                  by_cases hr : t.roots.length < 20
                  · have hr' : (t.roots.length : Int) < 20 := by omega
                    go_wp2_with fail
                    refine reg56  hN D _ _ _ _ _ _ _ _ _ _ _ _ _ _ _ _ _ _ _ _ _ _ _ _ _ _ _ _ _ _ _ _ _ _ _ _ _ _ _ _ _ _ _ _ _ _ _ _ _ _ _ _ _ _ _ _ _ _ _ _ _ _ _ _ _ _ _ _ _ _ _ _ _ _ _ _ _ _ _ _ _ _ _ _ _ _ _ _ _ _ _ _ _ _ _ _ _ _ _ _ _ _ _ _ _ _ _ _ _ _ _ _ _ _ _ _ _ _ _ _ _ _ _ _ _ _ _ _ _ _ _ _ _ _ _ _ _ _ _ _ _ _ _ _ _ _ _ _ _ _ _ _ _ _ _ _ _ _ _ _ _ _ _ _ _ _ _ _ _ _ _ _ _ _ _ _ _ _ _ _ _ _ _ _ _ _ _ _ _ _ _ _ _ _ _ _ _ _ _ _ _ _ _ _ _ _ ?_
                    intro SB t' q1 q2 q3 f1 f2 f3 r b w8 x190 x191 x192 x193 x194 x195 x196 x197 x198 D8 X8 rin wl an
                    (
                      clear D c1
                      cases b
                      · obtain ⟨c0, c1, c2, c3, c4, c5, c6, c7⟩ := hv8_cells D8.row
                        obtain ⟨fR, FR⟩ := D8.res
                        have OKC : (#[.slice p1 t.words.length e1, .slice p2 t.roots.length e2, .int .i64 t.old, .int .i64 t.eden, .int .i64 t.surv, .bool t.flip, .int .i64 t.hash, .slice p3 t.kept.length e3] : Array Value).all (·.oneCell') = true := by simp [Value.oneCell']
                        go_wp2_with ((with_reducible refine store_box _ ?_ (.tmp 2) (.tmp 207) 26 ?_ 26 w.heap.size 8 #[.slice p1 t.words.length e1, .slice p2 t.roots.length e2, .int .i64 t.old, .int .i64 t.eden, .int .i64 t.surv, .bool t.flip, .int .i64 t.hash, .slice p3 t.kept.length e3] _ ?_ ?_ FR ?_ ?_ OKC ?_); rfl; rfl; rfl; rfl; rfl; kernel_rfl; intro w9 F9 G9)
                        obtain ⟨r0, r1, r2, r3, r4, r5, r6, r7⟩ := hv8_cells (t := t) (p1 := p1) (p2 := p2) (p3 := p3) (e1 := e1) (e2 := e2) (e3 := e3) F9
                        exact bodyPost_ret (v := .agg #[.slice p1 t.words.length e1, .slice p2 t.roots.length e2, .int .i64 t.old, .int .i64 t.eden, .int .i64 t.surv, .bool t.flip, .int .i64 t.hash, .slice p3 t.kept.length e3]) (by simp [results, Tryz.results66, go_sem, r0, r1, r2, r3, r4, r5, r6, r7]) rfl (D8.done G9)
                      · obtain ⟨x0, x1, x2, x3, x4, x5, x6, x7⟩ := hv8_cells X8.row
                        have KC := kAddN X8.hm.hr X8.sm r rin (an.out (by simp) hr)
                        go_wp2_with fail
                        refine KC.mono ?_
                        rintro e wK ⟨⟨u, t2, rfl, HU, su, wl2⟩, hbk⟩
                        replace wl2 : Hid (t2.words.length = 3200) := wl2
                        obtain ⟨s1, s2, s3, h1, h2, h3, rfl⟩ := HU.shape
                        have DK := D8.later hbk
                        have HK := HU.low (C := w.heap.size) D8.gr.size
                        have OKC : (#[.slice s1 t2.words.length h1, .slice s2 t2.roots.length h2, .int .i64 t2.old, .int .i64 t2.eden, .int .i64 t2.surv, .bool t2.flip, .int .i64 t2.hash, .slice s3 t2.kept.length h3] : Array Value).all (·.oneCell') = true := by simp [Value.oneCell']
                        clear KC hbk HU x0 x1 x2 x3 x4 x5 x6 x7 X8
                        go_wp2_with ((with_reducible refine store_box _ ?_ (.tmp 3) (.tmp 205) 26 ?_ 26 H 8 #[.slice s1 t2.words.length h1, .slice s2 t2.roots.length h2, .int .i64 t2.old, .int .i64 t2.eden, .int .i64 t2.surv, .bool t2.flip, .int .i64 t2.hash, .slice s3 t2.kept.length h3] _ ?_ ?_ DK.row ?_ ?_ OKC ?_); rfl; rfl; rfl; rfl; rfl; kernel_rfl; intro w9 F9 G9)
                        have D9 := DK.take HK su wl2.out G9 F9
                        clear F9 G9 OKC HK DK D8
                        go_wp2
                        exact ⟨⟨j - 1, _, _, _, _, _, _, _, jv.out, by omega, D9⟩, by simp [intOf]; omega⟩
                    )
                  · have hr' : ¬ (t.roots.length : Int) < 20 := by omega
                    obtain ⟨c0, c1, c2, c3, c4, c5, c6, c7⟩ := hv8_cells D.row
                    obtain ⟨fR, FR⟩ := D.res
                    have OKC : (#[.slice p1 t.words.length e1, .slice p2 t.roots.length e2, .int .i64 t.old, .int .i64 t.eden, .int .i64 t.surv, .bool t.flip, .int .i64 t.hash, .slice p3 t.kept.length e3] : Array Value).all (·.oneCell') = true := by simp [Value.oneCell']
                    go_wp2_with ((with_reducible refine store_box _ ?_ (.tmp 2) (.tmp 207) 26 ?_ 26 w.heap.size 8 #[.slice p1 t.words.length e1, .slice p2 t.roots.length e2, .int .i64 t.old, .int .i64 t.eden, .int .i64 t.surv, .bool t.flip, .int .i64 t.hash, .slice p3 t.kept.length e3] _ ?_ ?_ FR ?_ ?_ OKC ?_); rfl; rfl; rfl; rfl; rfl; kernel_rfl; intro w9 F9 G9)
                    obtain ⟨r0, r1, r2, r3, r4, r5, r6, r7⟩ := hv8_cells (t := t) (p1 := p1) (p2 := p2) (p3 := p3) (e1 := e1) (e2 := e2) (e3 := e3) F9
                    exact bodyPost_ret (v := .agg #[.slice p1 t.words.length e1, .slice p2 t.roots.length e2, .int .i64 t.old, .int .i64 t.eden, .int .i64 t.surv, .bool t.flip, .int .i64 t.hash, .slice p3 t.kept.length e3]) (by simp [results, Tryz.results66, go_sem, r0, r1, r2, r3, r4, r5, r6, r7]) rfl (D.done G9)
                · obtain rfl : j = 0 := by omega
                  have hlt' : ¬ (0 : Int) < ((0 : Nat) : Int) := by omega
                  obtain ⟨c0, c1, c2, c3, c4, c5, c6, c7⟩ := hv8_cells D.row
                  obtain ⟨fR, FR⟩ := D.res
                  have OKC : (#[.slice p1 t.words.length e1, .slice p2 t.roots.length e2, .int .i64 t.old, .int .i64 t.eden, .int .i64 t.surv, .bool t.flip, .int .i64 t.hash, .slice p3 t.kept.length e3] : Array Value).all (·.oneCell') = true := by simp [Value.oneCell']
                  go_wp2_with ((with_reducible refine store_box _ ?_ (.tmp 2) (.tmp 207) 26 ?_ 26 w.heap.size 8 #[.slice p1 t.words.length e1, .slice p2 t.roots.length e2, .int .i64 t.old, .int .i64 t.eden, .int .i64 t.surv, .bool t.flip, .int .i64 t.hash, .slice p3 t.kept.length e3] _ ?_ ?_ FR ?_ ?_ OKC ?_); rfl; rfl; rfl; rfl; rfl; kernel_rfl; intro w9 F9 G9)
                  obtain ⟨r0, r1, r2, r3, r4, r5, r6, r7⟩ := hv8_cells (t := t) (p1 := p1) (p2 := p2) (p3 := p3) (e1 := e1) (e2 := e2) (e3 := e3) F9
                  exact bodyPost_ret (v := .agg #[.slice p1 t.words.length e1, .slice p2 t.roots.length e2, .int .i64 t.old, .int .i64 t.eden, .int .i64 t.surv, .bool t.flip, .int .i64 t.hash, .slice p3 t.kept.length e3]) (by simp [results, Tryz.results66, go_sem, r0, r1, r2, r3, r4, r5, r6, r7]) rfl (D.done G9)
          · obtain ⟨x0, x1, x2, x3, x4, x5, x6, x7⟩ := hv8_cells X9.row
            have OKC : (#[.slice q1 t'.words.length f1, .slice q2 t'.roots.length f2, .int .i64 t'.old, .int .i64 t'.eden, .int .i64 t'.surv, .bool t'.flip, .int .i64 t'.hash, .slice q3 t'.kept.length f3] : Array Value).all (·.oneCell') = true := by simp [Value.oneCell']
            go_wp2_with ((with_reducible refine store_box _ ?_ (.tmp 3) (.tmp 175) 26 ?_ 26 H 8 #[.slice q1 t'.words.length f1, .slice q2 t'.roots.length f2, .int .i64 t'.old, .int .i64 t'.eden, .int .i64 t'.surv, .bool t'.flip, .int .i64 t'.hash, .slice q3 t'.kept.length f3] _ ?_ ?_ D9.row ?_ ?_ OKC ?_); rfl; rfl; rfl; rfl; rfl; kernel_rfl; intro wA F9 G9)
            have DA := D9.take X9.hm X9.sm (wl.out (by simp)) G9 F9
            clear F9 G9 OKC x0 x1 x2 x3 x4 x5 x6 x7 X9 D9
            have hed2 := edOf_eq (hv8_cells DA.row).2.2.2.1
            go_wp2
            have gr' := gr.out (by simp)
            refine ⟨⟨_, _, _, _, _, _, _, _, _, _, _, _, ⟨t', _, _, _, _, _, _, DA⟩, rfl⟩, ?_⟩
            rw [hed, hed2]
            omega

end Go.Proofs.YtklafifiphbibaaGreat
