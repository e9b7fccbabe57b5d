/- A text that is bent: l2Bend of the model. -/
import Derived.Test.YtjclpbaiiklhcaaGreatDoorZV21
import Derived.Test.YtjclpbaiiklhcaaGreatDoorZV20
namespace Go.Proofs.YtjclpbaiiklhcaaGreatDoor
open Go.RowKit

/-- A text that is being bent: the bytes v, in a world that has grown from w0. -/
structure BN (w0 : World) (N : Nat) (cv : Value) (cs : List UInt8) (w : World) (v : Value) (l : List UInt8) : Prop where
  g : w0.grownBy w (some N)
  d0 : Dw N cv cs w0
  d : Dw N cv cs w
  hN : N < w0.heap.size
  bo : BO w0.heap.size w v l
section
variable {w0 w : World} {N : Nat} {cv v : Value} {cs l : List UInt8}
theorem BN.nlt (h : BN w0 N cv cs w v l) : N < w.heap.size := Nat.lt_of_lt_of_le h.hN h.g.size
theorem BN.call {w' : World} (h : BN w0 N cv cs w v l) (g : w.grownBy w' (some N)) (d : Dw N cv cs w') : BN w0 N cv cs w' v l := ⟨gtrans h.g g, h.d0, d, h.hN, h.bo.grown g h.hN⟩
theorem BN.drew (h : BN w0 N cv cs w v l) : BN w0 N cv cs w.drew v l := h.call (gdrew (World.grownBy.refl _ _)) (h.d.grown (gdrew (World.grownBy.refl _ _)) h.d (gdrew (World.grownBy.refl _ none)) (by simp) h.nlt)
/-- Another row of the function's own in its place. -/
theorem BN.row {w' : World} {v' : Value} {l' : List UInt8} {row : Option Nat} (h : BN w0 N cv cs w v l) (g : w.grownBy w' row) (hr : ∀ k, row = some k → w0.heap.size ≤ k) (b : BO w0.heap.size w' v' l') : BN w0 N cv cs w' v' l' := by
  have g2 : w0.grownBy w' (some N) := gmix h.g g hr
  exact ⟨g2, h.d0, h.d0.grown g2 h.d g (fun e => by have := hr N e.symm; have := h.hN; omega) h.nlt, h.hN, b⟩
end
theorem BO.mono {B B' : Nat} {w : World} {v : Value} {l : List UInt8} (h : BO B w v l) (hb : B' ≤ B) : BO B' w v l := by
  obtain ⟨ao, cap, e, h1, h2⟩ := h
  exact ⟨ao, cap, e, h1, fun i hi => let ⟨g, e1, hB, hc, hf⟩ := h2 i hi; ⟨g, e1, Nat.le_trans hb hB, hc, hf⟩⟩

theorem BN.gLt {w0 w : World} {N g cap n k : Nat} {cv : Value} {cs l : List UInt8} (h : BN w0 N cv cs w (.slice (some ⟨g, 0, none⟩) n cap) l) (hk : k < l.length) : g < w.heap.size := by
  obtain ⟨ao, c, e, _, hc⟩ := h.bo
  injection e with q1 q2 q3
  subst q1
  obtain ⟨b, e1, _, hcell, _⟩ := hc k hk
  injection e1 with e1
  injection e1 with e1
  subst e1
  exact World.block_lt_of_cell? w _ hcell
theorem BO.past {B g cap n : Nat} {w w' : World} {l : List UInt8} {row : Option Nat} (h : BO B w (.slice (some ⟨g, 0, none⟩) n cap) l) (hg : w.grownBy w' row) (hne : ∀ k, row = some k → g ≠ k) : BO B w' (.slice (some ⟨g, 0, none⟩) n cap) l := by
  obtain ⟨ao, c, e, h1, hc⟩ := h
  refine ⟨ao, c, e, h1, fun i hi => ?_⟩
  injection e with q1 q2 q3
  subst q1
  obtain ⟨b, e1, hb, hcell, hf⟩ := hc i hi
  have e2 : b = g := by
    injection e1 with e1
    injection e1 with e1
    exact e1.symm
  subst e2
  have hn : some b ≠ row := fun e => hne b e.symm rfl
  exact ⟨b, rfl, hb, hg.cell hcell hn, (World.frozen?_of_block (w := w) (hg.block b (World.block_lt_of_cell? w _ hcell) hn)).trans hf⟩

set_option maxRecDepth 100000 in
set_option maxHeartbeats 3200000 in
theorem Dw.bend {N : Nat} {cv : Value} {cs : List UInt8} {w : World} (h : Dw N cv cs w) (hN : N < w.heap.size) (s sg : ByteArray) (hs : s.size ≤ 900000) (g0 : 0 < sg.size) (g1 : sg.size ≤ 256) :
    Calls Tryz.prog 49 #[.pointer (some ⟨N, 0, none⟩), .string s, .string sg] w fun x w' => (∃ t : ByteArray, x = .returned (.string t) ∧ t.size ≤ s.size + 2) ∧ w.grownBy w' (some N) ∧ Dw N cv cs w' := by
  have hmx : Tryz.prog.follows .mixedOrders = true := by kernel_rfl
  have hcv := conv_bytes w s
  have hcap : s.size ≤ grownCap w s.size 0 5 := grownCap_ge _ _ _ _
  have bo0 := BO.conv w s (grownCap w s.size 0 5) hcap
  have bn0 : BN w N cv cs _ _ _ := ⟨gdrew (galloc w _ _), h, h.grown (gdrew (galloc w _ _)) h (gdrew (galloc w _ none)) (by simp) hN, hN, bo0⟩
  have hz0 : s.data.toList.length = s.size := by simp
  clear bo0
  go_enter Tryz.func49, Tryz.ntmps49
  go_wp2_with fail
  refine (bn0.d.below 3 (by omega) (by omega)).mono ?_
  rintro x w1 ⟨⟨z, rfl, z0, z1⟩, gz, dz⟩
  have bn1 := bn0.call gz dz
  clear hcv bn0 gz dz
  obtain ⟨zn, rfl⟩ := Int.eq_ofNat_of_zero_le z0
  generalize grownCap w s.size 0 5 = C at *
  generalize s.data.toList = l0 at *
  go_wp2
  go_loopw [7, 8] (fun bv nv wr => ∃ (l : List UInt8) (j : Nat) (v0 : Value), nv = .int .i64 j ∧ v0 = bv ∧ j + l.length ≤ s.size + 2 ∧ BN w N cv cs wr v0 l) (fun _ nv _ => (intOf nv).toNat)
  case atStart => exact ⟨l0, zn, _, rfl, rfl, by omega, bn1⟩
  case round =>
    obtain ⟨l, j, bv, rfl, rfl, hj, bn⟩ := hrel
    clear bn1
    obtain ⟨ao, cap, rfl, hcp, hcell⟩ := bn.bo
    have HZ : Hid ((⟨l.toArray⟩ : ByteArray).size ≤ s.size + 2) := (by show l.toArray.size ≤ s.size + 2; rw [List.size_toArray]; omega : (⟨l.toArray⟩ : ByteArray).size ≤ s.size + 2)
    by_cases hj0 : 0 < j
    · have e0 : decide ((0 : Int) < (j : Int)) = true := by simp; omega
      by_cases hl0 : 0 < l.length
      · have e1 : decide ((0 : Int) < (l.length : Int)) = true := by simp; omega
        obtain ⟨g, rfl, hB, _⟩ := hcell 0 hl0
        clear hcell
        have LS := bn.d.less (l.length : Int) (by omega) (by omega)
        go_wp2_with fail
        refine LS.mono ?_
        rintro x w2 ⟨⟨k, rfl, k0, k1⟩, g2, d2⟩
        have bn2 := bn.call g2 d2
        clear LS g2 d2 bn
        obtain ⟨kn, rfl⟩ := Int.eq_ofNat_of_zero_le k0
        go_wp2_with fail
        refine (bn2.d.below 4 (by omega) (by omega)).mono ?_
        rintro x w3 ⟨⟨y, rfl, y0, y1⟩, g3, d3⟩
        have bn3 := bn2.call g3 d3
        clear g3 d3 bn2
        have hkn : kn < l.length := by omega
        have hki : (kn : Int) < (l.length : Int) := by omega
        obtain rfl | rfl | rfl | rfl : y = 0 ∨ y = 1 ∨ y = 2 ∨ y = 3 := by omega
        · go_wp2_with fail
          refine (bn3.d.below (sg.size : Int) (by omega) (by omega)).mono ?_
          rintro x w4 ⟨⟨u, rfl, u0, u1⟩, g4, d4⟩
          have bn4 := bn3.call g4 d4
          clear g4 d4 bn3
          obtain ⟨un, rfl⟩ := Int.eq_ofNat_of_zero_le u0
          have hun : un < sg.size := by omega
          obtain ⟨ao', cap', e, _, hcell⟩ := bn4.bo
          injection e with q1 q2 q3
          subst q1 q3
          obtain ⟨g', e1', hB', hc, hf⟩ := hcell kn hkn
          injection e1' with e1'
          injection e1' with e1'
          subst e1'
          have bn5 : BN w N cv cs (w4.setCell ⟨g, kn, none⟩ (.int .u8 (sg[un].toNat : Int))) (.slice (some ⟨g, 0, none⟩) l.length cap) (l.set kn sg[un]) := bn4.row (gset1 _ _ _ _) (fun k hk => by cases hk; exact hB) (bn4.bo.set kn sg[un] _ rfl)
          replace bn5 : Hid _ := bn5
          clear hcell bn4
          go_wp2
          refine ⟨⟨l.set kn sg[un], j - 1, _, by go_num, rfl, by rw [List.length_set]; omega, bn5.out⟩, by simp [intOf]; omega⟩
        · have cu := cutB_h g l.length cap kn (by omega) hcp
          have bn5 : Hid (BN w N cv cs w3 (.slice (some ⟨g, 0, none⟩) kn cap) (l.take kn)) := bn3.row (World.grownBy.refl _ none) (fun k hk => by cases hk) (bn3.bo.take kn (by omega))
          clear bn3
          go_wp2
          refine ⟨⟨l.take kn, j - 1, _, by go_num, rfl, by rw [List.length_take]; omega, bn5.out⟩, by simp [intOf]; omega⟩
        · have bn4 := bn3.drew
          have r1 := bn4.bo.head kn
          have r2 := bn4.bo.tail (kn + 1)
          have cu1 := cutB_h g l.length cap kn (by omega) hcp
          have cu2 : ∀ W, (Instr.slice 22 (.slice (some ⟨g, 0, none⟩) l.length cap) (some (.int .i64 ((kn : Int) + 1))) none none).run Tryz.prog W = .ok (.slice (some (slA g cap (kn + 1))) (l.length - (kn + 1)) (cap - (kn + 1))) W := fun W => cutB_l g l.length cap (kn + 1) (by omega) W
          have sw : IntKind.i64.wrap ((kn : Int) + 1) = (kn : Int) + 1 := by rw [IntKind.wrap_i64]; omega
          have lk : (l.take kn).length = kn := by rw [List.length_take]; omega
          have ld : (l.drop (kn + 1)).length = l.length - (kn + 1) := by rw [List.length_drop]
          have sz := bn4.g.size
          have gl : g < w3.drew.heap.size := bn4.gLt hkn
          obtain ⟨v5, w5, hr5, ow5, gr5⟩ := run_appB (own_noneQ w3.drew w3.drew.heap.size (Nat.le_refl _)) (some ⟨g, 0, none⟩) cap (m := l.take kn) (r1.later (galloc _ _ none) (fun _ _ => by simp)) (by rw [lk]; simp; omega) (by simp) 22
          rw [lk] at hr5
          have r2b := (r2.later (galloc w3.drew (.cells #[] 5) none) (fun _ _ => by simp)).later gr5 (fun a e => by
            injection e with e
            subst e
            rw [slA_block]
            intro e2
            have e3 : g = w3.drew.heap.size := Option.some.inj e2
            omega)
          obtain ⟨v6, w6, hr6, ow6, gr6⟩ := run_appB ow5 (some (slA g cap (kn + 1))) (cap - (kn + 1)) (m := l.drop (kn + 1)) r2b (by rw [ld, List.nil_append, lk]; omega) (by have := gr5.size; rw [World.size_alloc] at this; omega) 22
          rw [ld] at hr6
          have bn6 : Hid (BN w N cv cs w6 v6 (([] ++ l.take kn) ++ l.drop (kn + 1))) := (bn4.row (galloc _ _ none) (fun k hk => by cases hk) ((bn4.bo.grown (galloc _ _ _) bn4.hN))).row gr5 (fun k hk => by cases hk; exact sz) (BO.mono (BO.owns ow5) sz) |>.row gr6 (fun k hk => Nat.le_trans sz (ow5.lt k hk).1) (BO.mono (BO.owns ow6) sz)
          have ln : Hid ((([] ++ l.take kn) ++ l.drop (kn + 1)).length ≤ l.length) := (by simp; omega : (([] ++ l.take kn) ++ l.drop (kn + 1)).length ≤ l.length)
          clear r1 r2 r2b ow5 gr5 ow6 gr6 bn4 bn3 lk ld
          go_wp2_with fail
          refine Disk.z_plain 99 (fun _ => True) hmx trivial (fun hS => ?_)
          refine Disk.z_take 1 48 (v := .slice (some ⟨g, 0, none⟩) l.length cap) rfl rfl (by kernel_rfl) (by kernel_rfl) (by kernel_rfl) (by kernel_rfl) (by rfl) hS (fun W' _ => (by
            go_simp; first | done | with_reducible rfl | with_reducible rfl)) ?_
          simp only [List.setIfInBounds_toArray, List.set_cons_zero, List.set_cons_succ]
          refine Disk.z_take 2 49 (v := .int .i64 (kn : Int)) rfl rfl (by kernel_rfl) (by kernel_rfl) (by kernel_rfl) (by kernel_rfl) (by rfl) hS (fun W' _ => (by
            go_simp; first | done | with_reducible rfl | with_reducible rfl)) ?_
          simp only [List.setIfInBounds_toArray, List.set_cons_zero, List.set_cons_succ]
          refine Disk.z_take 3 50 (v := .slice (some ⟨g, 0, none⟩) kn cap) rfl rfl (by kernel_rfl) (by kernel_rfl) (by kernel_rfl) (by kernel_rfl) (by rfl) hS (fun W' _ => (by
            go_simp; first | done | exact cu1 _ | with_reducible rfl)) ?_
          simp only [List.setIfInBounds_toArray, List.set_cons_zero, List.set_cons_succ]
          refine Disk.z_take 5 52 (v := .slice (some ⟨g, 0, none⟩) l.length cap) rfl rfl (by kernel_rfl) (by kernel_rfl) (by kernel_rfl) (by kernel_rfl) (by rfl) hS (fun W' _ => (by
            go_simp; first | done | with_reducible rfl | with_reducible rfl)) ?_
          simp only [List.setIfInBounds_toArray, List.set_cons_zero, List.set_cons_succ]
          refine Disk.z_take 6 53 (v := .int .i64 (kn : Int)) rfl rfl (by kernel_rfl) (by kernel_rfl) (by kernel_rfl) (by kernel_rfl) (by rfl) hS (fun W' _ => (by
            go_simp; first | done | with_reducible rfl | with_reducible rfl)) ?_
          simp only [List.setIfInBounds_toArray, List.set_cons_zero, List.set_cons_succ]
          refine Disk.z_take 7 54 (v := .int .i64 ((kn : Int) + 1)) rfl rfl (by kernel_rfl) (by kernel_rfl) (by kernel_rfl) (by kernel_rfl) (by rfl) hS (fun W' _ => (by
            go_simp; first | done | exact sw | with_reducible rfl)) ?_
          simp only [List.setIfInBounds_toArray, List.set_cons_zero, List.set_cons_succ]
          refine Disk.z_take 8 55 (v := .slice (some (slA g cap (kn + 1))) (l.length - (kn + 1)) (cap - (kn + 1))) rfl rfl (by kernel_rfl) (by kernel_rfl) (by kernel_rfl) (by kernel_rfl) (by rfl) hS (fun W' _ => (by
            go_simp; first | done | exact cu2 _ | with_reducible rfl)) ?_
          simp only [List.setIfInBounds_toArray, List.set_cons_zero, List.set_cons_succ]
          refine Disk.z_run 0 47 (v := .slice (some ⟨w3.drew.heap.size, 0, none⟩) 0 0) rfl rfl (by kernel_rfl) (by rfl) (by go_simp; first | done | with_reducible rfl | with_reducible rfl) (.inr trivial) ?_
          simp only [List.setIfInBounds_toArray, List.set_cons_zero, List.set_cons_succ]
          refine Disk.z_run 4 51 rfl rfl (by kernel_rfl) (by rfl) (exec_appQ _ _ rfl _ _ rfl rfl hr5) (.inr trivial) ?_
          simp only [List.setIfInBounds_toArray, List.set_cons_zero, List.set_cons_succ]
          refine Disk.z_run 9 56 rfl rfl (by kernel_rfl) (by rfl) (exec_appQ _ _ rfl _ _ rfl rfl hr6) (.inr trivial) ?_
          simp only [List.setIfInBounds_toArray, List.set_cons_zero, List.set_cons_succ]
          refine Disk.z_run 10 7 (v := v6) rfl rfl (by kernel_rfl) (by rfl) (by go_simp; first | done | with_reducible rfl | with_reducible rfl) (.inr trivial) ?_
          simp only [List.setIfInBounds_toArray, List.set_cons_zero, List.set_cons_succ]
          refine Disk.z_done (by kernel_rfl) ?_ _
          clear hr5 hr6 cu1 cu2 hS sw
          go_wp2
          exact ⟨⟨_, j - 1, _, by go_num, rfl, by have := ln.out; omega, bn6.out⟩, by simp [intOf]; omega⟩
        · have bn4 := bn3.drew
          have r1 := bn4.bo.head kn
          have cu1 := cutB_h g l.length cap kn (by omega) hcp
          have cu2 := cutB_l g l.length cap kn (by omega)
          have lk : (l.take kn).length = kn := by rw [List.length_take]; omega
          have ld : (l.drop kn).length = l.length - kn := by rw [List.length_drop]
          have sz := bn4.g.size
          have gl : g < w3.drew.heap.size := bn4.gLt hkn
          obtain ⟨v5, w5, hr5, ow5, gr5⟩ := run_appB (own_noneQ w3.drew w3.drew.heap.size (Nat.le_refl _)) (some ⟨g, 0, none⟩) cap (m := l.take kn) (r1.later (galloc _ _ none) (fun _ _ => by simp)) (by rw [lk]; simp; omega) (by simp) 22
          rw [lk] at hr5
          have bo5 : BO w.heap.size w5 (.slice (some ⟨g, 0, none⟩) l.length cap) l := (bn4.bo.grown (galloc w3.drew (.cells #[] 5) (some N)) bn4.hN).past gr5 (fun k hk => by cases hk; exact fun e => by have e3 : g = w3.drew.heap.size := e; omega)
          have bn5 : BN w N cv cs w5 (.slice (some ⟨g, 0, none⟩) l.length cap) l := (bn4.row (galloc w3.drew (.cells #[] 5) none) (fun k hk => by cases hk) ((bn4.bo.grown (galloc _ _ _) bn4.hN))).row gr5 (fun k hk => by cases hk; exact sz) bo5
          have sz5 : w3.drew.heap.size < w5.heap.size := by have := gr5.size; rw [World.size_alloc] at this; omega
          have hNB : N < w3.drew.heap.size := bn4.nlt
          have BL := bn5.d.below (sg.size : Int) (by omega) (by omega)
          clear r1 gr5 bn3
          go_wp2_with fail
          refine Disk.z_plain 99 (fun _ => True) hmx trivial (fun hS => ?_)
          refine Disk.z_take 1 60 (v := .slice (some ⟨g, 0, none⟩) l.length cap) rfl rfl (by kernel_rfl) (by kernel_rfl) (by kernel_rfl) (by kernel_rfl) (by rfl) hS (fun W' _ => (by
            go_simp; first | done | with_reducible rfl | with_reducible rfl)) ?_
          simp only [List.setIfInBounds_toArray, List.set_cons_zero, List.set_cons_succ]
          refine Disk.z_take 2 61 (v := .int .i64 (kn : Int)) rfl rfl (by kernel_rfl) (by kernel_rfl) (by kernel_rfl) (by kernel_rfl) (by rfl) hS (fun W' _ => (by
            go_simp; first | done | with_reducible rfl | with_reducible rfl)) ?_
          simp only [List.setIfInBounds_toArray, List.set_cons_zero, List.set_cons_succ]
          refine Disk.z_take 3 62 (v := .slice (some ⟨g, 0, none⟩) kn cap) rfl rfl (by kernel_rfl) (by kernel_rfl) (by kernel_rfl) (by kernel_rfl) (by rfl) hS (fun W' _ => (by
            go_simp; first | done | exact cu1 _ | with_reducible rfl)) ?_
          simp only [List.setIfInBounds_toArray, List.set_cons_zero, List.set_cons_succ]
          refine Disk.z_take 5 64 (v := .string sg) rfl rfl (by kernel_rfl) (by kernel_rfl) (by kernel_rfl) (by kernel_rfl) (by rfl) hS (fun W' _ => (by
            go_simp; first | done | with_reducible rfl | with_reducible rfl)) ?_
          simp only [List.setIfInBounds_toArray, List.set_cons_zero, List.set_cons_succ]
          refine Disk.z_take 6 65 (v := .pointer (some ⟨N, 0, none⟩)) rfl rfl (by kernel_rfl) (by kernel_rfl) (by kernel_rfl) (by kernel_rfl) (by rfl) hS (fun W' _ => (by
            go_simp; first | done | with_reducible rfl | with_reducible rfl)) ?_
          simp only [List.setIfInBounds_toArray, List.set_cons_zero, List.set_cons_succ]
          refine Disk.z_take 7 66 (v := .string sg) rfl rfl (by kernel_rfl) (by kernel_rfl) (by kernel_rfl) (by kernel_rfl) (by rfl) hS (fun W' _ => (by
            go_simp; first | done | with_reducible rfl | with_reducible rfl)) ?_
          simp only [List.setIfInBounds_toArray, List.set_cons_zero, List.set_cons_succ]
          refine Disk.z_take 8 67 (v := .int .i64 (sg.size : Int)) rfl rfl (by kernel_rfl) (by kernel_rfl) (by kernel_rfl) (by kernel_rfl) (by rfl) hS (fun W' _ => (by
            go_simp; first | done | with_reducible rfl | with_reducible rfl)) ?_
          simp only [List.setIfInBounds_toArray, List.set_cons_zero, List.set_cons_succ]
          refine Disk.z_take 13 72 (v := .slice (some ⟨g, 0, none⟩) l.length cap) rfl rfl (by kernel_rfl) (by kernel_rfl) (by kernel_rfl) (by kernel_rfl) (by rfl) hS (fun W' _ => (by
            go_simp; first | done | with_reducible rfl | with_reducible rfl)) ?_
          simp only [List.setIfInBounds_toArray, List.set_cons_zero, List.set_cons_succ]
          refine Disk.z_take 14 73 (v := .int .i64 (kn : Int)) rfl rfl (by kernel_rfl) (by kernel_rfl) (by kernel_rfl) (by kernel_rfl) (by rfl) hS (fun W' _ => (by
            go_simp; first | done | with_reducible rfl | with_reducible rfl)) ?_
          simp only [List.setIfInBounds_toArray, List.set_cons_zero, List.set_cons_succ]
          refine Disk.z_take 15 74 (v := .slice (some (slA g cap kn)) (l.length - kn) (cap - kn)) rfl rfl (by kernel_rfl) (by kernel_rfl) (by kernel_rfl) (by kernel_rfl) (by rfl) hS (fun W' _ => (by
            go_simp; first | done | exact cu2 _ | with_reducible rfl)) ?_
          simp only [List.setIfInBounds_toArray, List.set_cons_zero, List.set_cons_succ]
          refine Disk.z_run 0 59 (v := .slice (some ⟨w3.drew.heap.size, 0, none⟩) 0 0) rfl rfl (by kernel_rfl) (by rfl) (by go_simp; first | done | with_reducible rfl | with_reducible rfl) (.inr trivial) ?_
          simp only [List.setIfInBounds_toArray, List.set_cons_zero, List.set_cons_succ]
          refine Disk.z_run 4 63 rfl rfl (by kernel_rfl) (by rfl) (exec_appQ _ _ rfl _ _ rfl rfl hr5) (.inr trivial) ?_
          simp only [List.setIfInBounds_toArray, List.set_cons_zero, List.set_cons_succ]
          refine Disk.z_call 9 68 rfl rfl (by kernel_rfl) (by rfl) (f := 33) (args := #[.pointer (some ⟨N, 0, none⟩), .int .i64 (sg.size : Int)]) (w0 := w5) (by go_simp; first | done | with_reducible rfl) ?_
          refine BL.mono ?_
          rintro x w6 ⟨⟨u, rfl, u0, u1⟩, g6, d6⟩
          refine ⟨_, rfl, .inr trivial, ?_⟩
          simp only [List.setIfInBounds_toArray, List.set_cons_zero, List.set_cons_succ]
          obtain ⟨un, rfl⟩ := Int.eq_ofNat_of_zero_le u0
          have hun : un < sg.size := by omega
          have bn6 := bn5.call g6 d6
          have ow6 := own_offQ ow5 g6 hNB
          have sz6 := g6.size
          clear BL bn5 bo5 bn4 g6 d6 ow5 hr5
          have one : RdB (w6.alloc (.cells #[.int .u8 (sg[un].toNat : Int)] 5)) (some ⟨w6.heap.size, 0, none⟩) [sg[un]] := fun j hj => ⟨w6.heap.size, 0, rfl, by
            obtain rfl : j = 0 := by simpa using hj
            simp⟩
          have ow7 := ow6.alloc (.cells #[.int .u8 (sg[un].toNat : Int)] 5)
          obtain ⟨v8, w8, hr8, ow8, gr8⟩ := run_appB ow7 (some ⟨w6.heap.size, 0, none⟩) 1 one (by rw [List.nil_append, lk]; simp; omega) (by rw [World.size_alloc]; omega) 22
          have vb : ∀ k, v5.ownBlock = some k → w3.drew.heap.size ≤ k := fun k hk => (ow7.lt k hk).1
          have r8 : RdB w8 (some (slA g cap kn)) (l.drop kn) := ((bn6.bo.tail kn).later (galloc w6 (.cells #[.int .u8 (sg[un].toNat : Int)] 5) none) (fun _ _ => by simp)).later gr8 (fun a e => by
            injection e with e
            subst e
            rw [slA_block]
            intro e2
            have := vb g e2.symm
            omega)
          obtain ⟨v9, w9, hr9, ow9, gr9⟩ := run_appB ow8 (some (slA g cap kn)) (cap - kn) r8 (by rw [ld, List.length_append, List.nil_append, lk]; simp; omega) (by have := gr8.size; rw [World.size_alloc] at this; omega) 22
          rw [ld] at hr9
          have bn9 : Hid (BN w N cv cs w9 v9 ((([] ++ l.take kn) ++ [sg[un]]) ++ l.drop kn)) := ((bn6.row (galloc w6 (.cells #[.int .u8 (sg[un].toNat : Int)] 5) none) (fun k hk => by cases hk) (bn6.bo.grown (galloc _ _ _) bn6.hN)).row gr8 (fun k hk => Nat.le_trans sz (vb k hk)) (BO.mono (BO.owns ow8) sz)).row gr9 (fun k hk => Nat.le_trans sz (ow8.lt k hk).1) (BO.mono (BO.owns ow9) sz)
          have ln : Hid (((([] ++ l.take kn) ++ [sg[un]]) ++ l.drop kn).length ≤ l.length + 1) := (by simp; omega : ((([] ++ l.take kn) ++ [sg[un]]) ++ l.drop kn).length ≤ l.length + 1)
          clear r8 ow8 gr8 ow9 gr9 ow7 ow6 one vb bn6 lk ld
          refine Disk.z_run 10 69 (v := .int .u8 (sg[un].toNat : Int)) rfl rfl (by kernel_rfl) (by rfl) (by go_simp; first | done | with_reducible rfl | with_reducible rfl) (.inr trivial) ?_
          simp only [List.setIfInBounds_toArray, List.set_cons_zero, List.set_cons_succ]
          refine Disk.z_run 11 70 (v := .slice (some ⟨w6.heap.size, 0, none⟩) 1 1) rfl rfl (by kernel_rfl) (by rfl) (by go_simp; first | done | with_reducible rfl | with_reducible rfl) (.inr trivial) ?_
          simp only [List.setIfInBounds_toArray, List.set_cons_zero, List.set_cons_succ]
          refine Disk.z_run 12 71 rfl rfl (by kernel_rfl) (by rfl) (exec_appQ _ _ rfl _ _ rfl rfl hr8) (.inr trivial) ?_
          simp only [List.setIfInBounds_toArray, List.set_cons_zero, List.set_cons_succ]
          refine Disk.z_run 16 75 rfl rfl (by kernel_rfl) (by rfl) (exec_appQ _ _ rfl _ _ rfl rfl hr9) (.inr trivial) ?_
          simp only [List.setIfInBounds_toArray, List.set_cons_zero, List.set_cons_succ]
          refine Disk.z_run 17 7 (v := v9) rfl rfl (by kernel_rfl) (by rfl) (by go_simp; first | done | with_reducible rfl | with_reducible rfl) (.inr trivial) ?_
          simp only [List.setIfInBounds_toArray, List.set_cons_zero, List.set_cons_succ]
          refine Disk.z_done (by kernel_rfl) ?_ _
          clear hr8 hr9 cu1 cu2 hS
          go_wp2
          exact ⟨⟨_, j - 1, _, by go_num, rfl, by have := ln.out; omega, bn9.out⟩, by simp [intOf]; omega⟩
      · have e1 : decide ((0 : Int) < (l.length : Int)) = false := decide_eq_false (by omega)
        have TX := bn.bo.text
        have F : Hid (w.grownBy wr (some N) ∧ Dw N cv cs wr) := ⟨bn.g, bn.d⟩
        clear bn hcell
        go_wp2
        go_ret
        exact ⟨⟨_, rfl, HZ.out⟩, F.out⟩
    · have e0 : decide ((0 : Int) < (j : Int)) = false := by simp; omega
      have TX := bn.bo.text
      have F : Hid (w.grownBy wr (some N) ∧ Dw N cv cs wr) := ⟨bn.g, bn.d⟩
      clear bn hcell
      go_wp2
      go_ret
      exact ⟨⟨_, rfl, HZ.out⟩, F.out⟩

end Go.Proofs.YtjclpbaiiklhcaaGreatDoor
