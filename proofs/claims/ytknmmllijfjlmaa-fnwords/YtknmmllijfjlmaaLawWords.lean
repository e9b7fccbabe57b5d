/- The law FnWords, walked. -/
import Derived.Test.YtknmmllijfjlmaaWords
import Derived.Test.YtknmmllijfjlmaaWDraw
namespace Go.Proofs.Ytknmmllijfjlmaa
open Go.RowKit

def isI (v : Value) : Bool := match v with
  | .int .i64 _ => true
  | _ => false
theorem isI_of {v : Value} (h : isI v = true) : ∃ m, v = .int .i64 m := by
  unfold isI at h
  split at h
  · exact ⟨_, rfl⟩
  · cases h
theorem lit_cell {w w' : World} {N : Nat} (C : Array Value) (hC : C.toList.all isI = true) (g : (w.alloc (.cells C 2)).grownBy w' (some N)) (hN : N < w.heap.size) (z : Nat) (hz : z < C.size) : ∃ m : Int, w'.cell? ⟨w.heap.size, z, none⟩ = some (.int .i64 m) := by
  have h1 : isI C[z] = true := List.all_eq_true.1 hC _ (by simp)
  obtain ⟨m, hm⟩ := isI_of h1
  refine ⟨m, g.cell ?_ (fun e => by have e2 : w.heap.size = N := Option.some.inj e; omega)⟩
  have hh := heap_alloc_new w (.cells C 2)
  simp only [World.cell?, hh]
  rw [Array.getElem?_eq_getElem hz, hm]
  rfl

set_option maxRecDepth 100000 in
set_option maxHeartbeats 1600000 in
theorem Dw.belowG {N : Nat} {cv : Value} {cs : List UInt8} {w : World} (h : Dw N cv cs w) (n : Int) (h0 : 256 < n) (h1 : n ≤ 1000000) :
    Calls Try.prog 33 #[.pointer (some ⟨N, 0, none⟩), .int .i64 n] w fun x w' => (∃ z : Int, x = .returned (.int .i64 z) ∧ 0 ≤ z ∧ z < n) ∧ w.grownBy w' (some N) ∧ Dw N cv cs w' := by
  have B := h.byte
  have e1 : decide (n ≤ 0) = false := by simp; omega
  have e2 : decide (n ≤ 256) = false := by simp; omega
  go_enter Try.func33, Try.ntmps33
  go_wp2_with fail
  refine B.mono ?_
  rintro x w1 ⟨⟨z, rfl, z0, z1⟩, g1, d1⟩
  clear B
  have B := d1.byte
  go_wp2_with fail
  refine B.mono ?_
  rintro x w2 ⟨⟨y, rfl, y0, y1⟩, g2, d2⟩
  clear B
  have B := d2.byte
  go_wp2_with fail
  refine B.mono ?_
  rintro x w3 ⟨⟨u, rfl, u0, u1⟩, g3, d3⟩
  clear B
  have B := d3.byte
  go_wp2_with fail
  refine B.mono ?_
  rintro x w4 ⟨⟨t, rfl, t0, t1⟩, g4, d4⟩
  clear B
  have gw := gtrans (gtrans (gtrans g1 g2) g3) g4
  have nz : ¬ n = 0 := by omega
  have q0 : 0 ≤ z * 16777216 + y * 65536 + u * 256 + t := by omega
  have hm0 : 0 ≤ (z * 16777216 + y * 65536 + u * 256 + t) % n := Int.emod_nonneg _ nz
  have hm1 : (z * 16777216 + y * 65536 + u * 256 + t) % n < n := Int.emod_lt_of_pos _ (by omega)
  go_wp2
  go_ret
  exact ⟨⟨_, rfl, hm0, hm1⟩, gw, d4⟩

theorem Dw.fromG {N : Nat} {cv : Value} {cs : List UInt8} {w : World} (h : Dw N cv cs w) (lo hi : Int) (h0 : 256 < hi - lo + 1) (h1 : hi - lo + 1 ≤ 1000000) (l0 : -100000 ≤ lo) (l1 : lo ≤ 100000) :
    Calls Try.prog 34 #[.pointer (some ⟨N, 0, none⟩), .int .i64 lo, .int .i64 hi] w fun x w' => (∃ z : Int, x = .returned (.int .i64 z)) ∧ w.grownBy w' (some N) ∧ Dw N cv cs w' := by
  have B := h.belowG (hi - lo + 1) h0 h1
  go_enter Try.func34, Try.ntmps34
  go_wp2_with fail
  refine B.mono ?_
  rintro x w1 ⟨⟨z, rfl, z0, z1⟩, g1, d1⟩
  go_wp2
  go_ret
  exact ⟨⟨_, rfl⟩, g1, d1⟩

set_option maxRecDepth 100000 in
set_option maxHeartbeats 1600000 in
theorem l4Draw_any {N : Nat} {cv : Value} {cs : List UInt8} {w : World} (h : Dw N cv cs w) (hN : N < w.heap.size) :
    Calls Try.prog 23 #[.pointer (some ⟨N, 0, none⟩)] w fun x w' => (∃ z : Int, x = .returned (.int .i64 z)) ∧ w.grownBy w' (some N) := by
  have B := h.once 8 (by omega) (by omega)
  go_enter Try.func23, Try.ntmps23
  go_wp2_with fail
  refine B.mono ?_
  rintro x w1 ⟨⟨b, rfl⟩, g1, d1⟩
  clear B
  have hN1 : N < w1.heap.size := Nat.lt_of_lt_of_le hN g1.size
  cases b
  · have B := d1.fromG (-500) 3300 (by omega) (by omega) (by omega) (by omega)
    go_wp2_with fail
    refine B.mono ?_
    rintro x w2 ⟨⟨z, rfl⟩, g2, d2⟩
    go_wp2
    go_ret
    exact ⟨⟨_, rfl⟩, gtrans g1 g2⟩
  · go_wp2_with fail
    refine ((d1.grown (galloc _ _ _) d1 (galloc _ _ none) (by simp) hN1).below 10 (by omega) (by omega)).mono ?_
    rintro x w2 ⟨⟨z, rfl, z0, z1⟩, g2, d2⟩
    obtain ⟨zn, rfl⟩ := Int.eq_ofNat_of_zero_le z0
    obtain ⟨m, hm⟩ := lit_cell _ (by rfl) g2 hN1 zn (by simp; omega)
    have gw := gtrans g1 (gtrans (galloc _ _ _) g2)
    have z1' : decide ((zn : Int) < 10) = true := by simp; omega
    clear g2
    go_wp2
    go_ret
    exact ⟨⟨_, rfl⟩, gw⟩
set_option maxRecDepth 100000 in
set_option maxHeartbeats 1600000 in
theorem l4DrawWord_any {N : Nat} {cv : Value} {cs : List UInt8} {w : World} (h : Dw N cv cs w) (hN : N < w.heap.size) :
    Calls Try.prog 31 #[.pointer (some ⟨N, 0, none⟩)] w fun x w' => (∃ z : Int, x = .returned (.int .i64 z)) ∧ w.grownBy w' (some N) := by
  have B := h.once 8 (by omega) (by omega)
  go_enter Try.func31, Try.ntmps31
  go_wp2_with fail
  refine B.mono ?_
  rintro x w1 ⟨⟨b, rfl⟩, g1, d1⟩
  clear B
  have hN1 : N < w1.heap.size := Nat.lt_of_lt_of_le hN g1.size
  cases b
  · have B := d1.fromG (-500) 7000 (by omega) (by omega) (by omega) (by omega)
    go_wp2_with fail
    refine B.mono ?_
    rintro x w2 ⟨⟨z, rfl⟩, g2, d2⟩
    go_wp2
    go_ret
    exact ⟨⟨_, rfl⟩, gtrans g1 g2⟩
  · go_wp2_with fail
    refine ((d1.grown (galloc _ _ _) d1 (galloc _ _ none) (by simp) hN1).below 11 (by omega) (by omega)).mono ?_
    rintro x w2 ⟨⟨z, rfl, z0, z1⟩, g2, d2⟩
    obtain ⟨zn, rfl⟩ := Int.eq_ofNat_of_zero_le z0
    obtain ⟨m, hm⟩ := lit_cell _ (by rfl) g2 hN1 zn (by simp; omega)
    have gw := gtrans g1 (gtrans (galloc _ _ _) g2)
    have z1' : decide ((zn : Int) < 11) = true := by simp; omega
    clear g2
    go_wp2
    go_ret
    exact ⟨⟨_, rfl⟩, gw⟩
theorem drawInt_any (cv : Value) (cs : List UInt8) (w : World) (hc : BR w cv cs) (hn : cs.length ≤ 4096) :
    Calls Try.prog 10 #[cv] w fun x w' => (∃ z : Int, x = .returned (.int .i64 z)) ∧ Below w.heap.size w w' := by
  have NW := l1New_any cv cs w hc hn
  go_enter Try.func10, Try.ntmps10
  go_wp2_with fail
  refine NW.mono ?_
  rintro x w1 ⟨N, rfl, hN, hN1, hb1, d1⟩
  clear NW
  go_wp2_with fail
  refine (l4Draw_any d1 hN1).mono ?_
  rintro x w2 ⟨⟨z, rfl⟩, g2⟩
  have bw := gbel hb1 g2 hb1.size hN
  go_wp2
  go_ret
  exact ⟨⟨_, rfl⟩, bw⟩
theorem drawWordOk_any (cv : Value) (cs : List UInt8) (w : World) (hc : BR w cv cs) (hn : cs.length ≤ 4096) :
    Calls Try.prog 18 #[cv] w fun x w' => (∃ z : Int, x = .returned (.int .i64 z)) ∧ Below w.heap.size w w' := by
  have NW := l1New_any cv cs w hc hn
  go_enter Try.func18, Try.ntmps18
  go_wp2_with fail
  refine NW.mono ?_
  rintro x w1 ⟨N, rfl, hN, hN1, hb1, d1⟩
  clear NW
  go_wp2_with fail
  refine (l4DrawWord_any d1 hN1).mono ?_
  rintro x w2 ⟨⟨z, rfl⟩, g2⟩
  have bw := gbel hb1 g2 hb1.size hN
  go_wp2
  go_ret
  exact ⟨⟨_, rfl⟩, bw⟩

theorem int_back {n : Int} (h : numB n = true) : isK 1 (intN n) = true ∧ valK 1 (intN n) = n ∧ wokB (intN n) = true := by
  have e : intN n = 2 * n := by unfold intN; rw [if_pos h]
  have k : kindW (2 * n) = 1 := by
    unfold kindW
    rw [if_neg (by omega), show 2 * n / 2 = n by omega, if_pos h]
  rw [e]
  exact ⟨by unfold isK; rw [k]; rfl, by unfold valK; rw [if_pos k]; omega, by unfold wokB; rw [k]; rfl⟩
theorem ref_back {n : Int} (h : adrB n = true) : isK 2 (refN n) = true ∧ valK 2 (refN n) = n ∧ wokB (refN n) = true := by
  have e : refN n = 2 * n + 1 := by unfold refN; rw [if_pos h]
  have k : kindW (2 * n + 1) = 2 := by
    unfold kindW
    rw [if_pos (by omega), show (2 * n + 1) / 2 = n by omega, if_pos h]
  rw [e]
  exact ⟨by unfold isK; rw [k]; rfl, by unfold valK; rw [if_pos k]; omega, by unfold wokB; rw [k]; rfl⟩
/-- No word is both, and a word is one of the two. -/
theorem kinds (v : Int) : (isK 1 v = true ∧ isK 2 v = false ∧ wokB v = true) ∨ (isK 1 v = false ∧ isK 2 v = true ∧ wokB v = true) ∨ (isK 1 v = false ∧ isK 2 v = false ∧ wokB v = false) := by
  unfold isK wokB kindW
  split
  · cases adrB (v / 2) <;> decide
  · cases numB (v / 2) <;> decide

set_option maxRecDepth 100000 in
set_option maxHeartbeats 3200000 in
theorem lawWords_any (cv : Value) (cs : List UInt8) (w : World) (hc : BR w cv cs) :
    Calls Try.prog 3 #[cv] w fun x w' => x = .returned (.bool true) ∧ Below w.heap.size w w' := by
  have BG := big_any cv cs w hc
  by_cases hbig : 4096 < cs.length
  · rw [decide_eq_true hbig] at BG
    go_enter Try.func3, Try.ntmps3
    go_wp2_with (go_at_call 9; refine BG.mono ?_; rintro x w' ⟨rfl, rfl⟩)
    go_ret
    exact ⟨rfl, Below.refl _ _⟩
  rw [decide_eq_false hbig] at BG
  have DP := drawInt_any cv cs w hc (by omega)
  go_enter Try.func3, Try.ntmps3
  go_wp2_with fail
  refine BG.mono ?_
  rintro x w0 ⟨rfl, rfl⟩
  clear BG
  go_wp2_with fail
  refine DP.mono ?_
  rintro x w1 ⟨⟨n, rfl⟩, hb1⟩
  clear DP
  have DW := drawWordOk_any cv cs w1 (hc.later hb1) (by omega)
  have IB : numB n = true → isK 1 (intN n) = true ∧ valK 1 (intN n) = n ∧ wokB (intN n) = true := int_back
  have RB : adrB n = true → isK 2 (refN n) = true ∧ valK 2 (refN n) = n ∧ wokB (refN n) = true := ref_back
  go_wp2_with fail
  refine (implInt_any n _).mono ?_
  rintro x w2 ⟨rfl, rfl⟩
  go_wp2_with fail
  refine (implRef_any n _).mono ?_
  rintro x w2 ⟨rfl, rfl⟩
  go_wp2_with fail
  refine (specInt_any n _).mono ?_
  rintro x w2 ⟨rfl, rfl⟩
  go_wp2_with fail
  refine (specRef_any n _).mono ?_
  rintro x w2 ⟨rfl, rfl⟩
  go_wp2_with fail
  refine (implIntOf_any _ _).mono ?_
  rintro x w3 ⟨rfl, rfl⟩
  cases hp : numB n
  · clear IB hp
    go_wp2_with fail
    refine (implRefOf_any _ _).mono ?_
    rintro x w3 ⟨rfl, rfl⟩
    cases hq : adrB n
    · clear RB hq
      go_wp2_with fail
      refine DW.mono ?_
      rintro x w4 ⟨⟨v, rfl⟩, hb4⟩
      have bw := bel_after hb1 hb4
      go_wp2_with fail
      refine (implIntOf_any v _).mono ?_
      rintro x w5 ⟨rfl, rfl⟩
      go_wp2_with fail
      refine (implRefOf_any v _).mono ?_
      rintro x w5 ⟨rfl, rfl⟩
      rcases kinds v with ⟨k1, k2, k3⟩ | ⟨k1, k2, k3⟩ | ⟨k1, k2, k3⟩
      all_goals
        rw [k1, k2]
        go_wp2_with fail
        refine (implWordOk_any v _).mono ?_
        rintro x w5 ⟨rfl, rfl⟩
        go_wp2_with fail
        refine (specWordOk_any v _).mono ?_
        rintro x w5 ⟨rfl, rfl⟩
        rw [k3]
        go_wp2_with fail
        refine (implWordOk_any v _).mono ?_
        rintro x w5 ⟨rfl, rfl⟩
        rw [k3]
        go_wp2
        go_ret
        exact ⟨rfl, bw⟩
    · obtain ⟨j1, j2, j3⟩ := RB hq
      clear RB hq
      rw [j1, j2]
      go_wp2_with fail
      refine (implWordOk_any _ _).mono ?_
      rintro x w3 ⟨rfl, rfl⟩
      rw [j3]
      clear j1 j2 j3
      go_wp2_with fail
      refine DW.mono ?_
      rintro x w4 ⟨⟨v, rfl⟩, hb4⟩
      have bw := bel_after hb1 hb4
      go_wp2_with fail
      refine (implIntOf_any v _).mono ?_
      rintro x w5 ⟨rfl, rfl⟩
      go_wp2_with fail
      refine (implRefOf_any v _).mono ?_
      rintro x w5 ⟨rfl, rfl⟩
      rcases kinds v with ⟨k1, k2, k3⟩ | ⟨k1, k2, k3⟩ | ⟨k1, k2, k3⟩
      all_goals
        rw [k1, k2]
        go_wp2_with fail
        refine (implWordOk_any v _).mono ?_
        rintro x w5 ⟨rfl, rfl⟩
        go_wp2_with fail
        refine (specWordOk_any v _).mono ?_
        rintro x w5 ⟨rfl, rfl⟩
        rw [k3]
        go_wp2_with fail
        refine (implWordOk_any v _).mono ?_
        rintro x w5 ⟨rfl, rfl⟩
        rw [k3]
        go_wp2
        go_ret
        exact ⟨rfl, bw⟩
  · obtain ⟨i1, i2, i3⟩ := IB hp
    clear IB hp
    rw [i1, i2]
    go_wp2_with fail
    refine (implWordOk_any _ _).mono ?_
    rintro x w3 ⟨rfl, rfl⟩
    rw [i3]
    clear i1 i2 i3
    go_wp2_with fail
    refine (implRefOf_any _ _).mono ?_
    rintro x w3 ⟨rfl, rfl⟩
    cases hq : adrB n
    · clear RB hq
      go_wp2_with fail
      refine DW.mono ?_
      rintro x w4 ⟨⟨v, rfl⟩, hb4⟩
      have bw := bel_after hb1 hb4
      go_wp2_with fail
      refine (implIntOf_any v _).mono ?_
      rintro x w5 ⟨rfl, rfl⟩
      go_wp2_with fail
      refine (implRefOf_any v _).mono ?_
      rintro x w5 ⟨rfl, rfl⟩
      rcases kinds v with ⟨k1, k2, k3⟩ | ⟨k1, k2, k3⟩ | ⟨k1, k2, k3⟩
      all_goals
        rw [k1, k2]
        go_wp2_with fail
        refine (implWordOk_any v _).mono ?_
        rintro x w5 ⟨rfl, rfl⟩
        go_wp2_with fail
        refine (specWordOk_any v _).mono ?_
        rintro x w5 ⟨rfl, rfl⟩
        rw [k3]
        go_wp2_with fail
        refine (implWordOk_any v _).mono ?_
        rintro x w5 ⟨rfl, rfl⟩
        rw [k3]
        go_wp2
        go_ret
        exact ⟨rfl, bw⟩
    · obtain ⟨j1, j2, j3⟩ := RB hq
      clear RB hq
      rw [j1, j2]
      go_wp2_with fail
      refine (implWordOk_any _ _).mono ?_
      rintro x w3 ⟨rfl, rfl⟩
      rw [j3]
      clear j1 j2 j3
      go_wp2_with fail
      refine DW.mono ?_
      rintro x w4 ⟨⟨v, rfl⟩, hb4⟩
      have bw := bel_after hb1 hb4
      go_wp2_with fail
      refine (implIntOf_any v _).mono ?_
      rintro x w5 ⟨rfl, rfl⟩
      go_wp2_with fail
      refine (implRefOf_any v _).mono ?_
      rintro x w5 ⟨rfl, rfl⟩
      rcases kinds v with ⟨k1, k2, k3⟩ | ⟨k1, k2, k3⟩ | ⟨k1, k2, k3⟩
      all_goals
        rw [k1, k2]
        go_wp2_with fail
        refine (implWordOk_any v _).mono ?_
        rintro x w5 ⟨rfl, rfl⟩
        go_wp2_with fail
        refine (specWordOk_any v _).mono ?_
        rintro x w5 ⟨rfl, rfl⟩
        rw [k3]
        go_wp2_with fail
        refine (implWordOk_any v _).mono ?_
        rintro x w5 ⟨rfl, rfl⟩
        rw [k3]
        go_wp2
        go_ret
        exact ⟨rfl, bw⟩
end Go.Proofs.Ytknmmllijfjlmaa
