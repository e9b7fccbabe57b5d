/- The draw kit of the model, beside heaps. -/
import Derived.Test.YtgacacbncefeaaaGreatZHBase
import Derived.RegionTactic
import Derived.Below
namespace Go.Proofs.YtgacacbncefeaaaGreat
open Go.RowKit

/-- The bytes that a slice reads as. -/
def BR (w : World) (v : Value) (l : List UInt8) : Prop :=
  ∃ ao cap, v = .slice ao l.length cap ∧ l.length ≤ cap ∧ ∀ i (h : i < l.length), ∃ b o, ao = some ⟨b, o, none⟩ ∧ w.cell? ⟨b, o + i, none⟩ = some (.int .u8 (l[i].toNat : Int))
theorem BR.later {w w' : World} {v : Value} {l : List UInt8} (h : BR w v l) (hb : Below w.heap.size w w') : BR w' v l := by
  obtain ⟨ao, cap, rfl, hle, h⟩ := h
  exact ⟨ao, cap, rfl, hle, fun i hi => by obtain ⟨b, o, e, hc⟩ := h i hi; exact ⟨b, o, e, cell_later hb hc⟩⟩
theorem and255 (a : Int) : 0 ≤ bits .and .i64 a 255 ∧ bits .and .i64 a 255 ≤ 255 := by
  have key : bits .and .i64 a 255 = (((BitVec.ofInt 64 a) &&& (BitVec.ofInt 64 255)).toNat : Int) := by
    unfold bits
    show IntKind.wrap .i64 ((((BitVec.ofInt 64 a) &&& (BitVec.ofInt 64 255)).toNat : Nat) : Int) = _
    have hle : ((BitVec.ofInt 64 a) &&& (BitVec.ofInt 64 255)).toNat ≤ 255 := by
      rw [BitVec.toNat_and]
      exact Nat.le_trans Nat.and_le_right (by decide)
    generalize ((BitVec.ofInt 64 a) &&& (BitVec.ofInt 64 255)).toNat = k at *
    simp [IntKind.wrap, IntKind.bits, IntKind.signed]
    omega
  have hle : ((BitVec.ofInt 64 a) &&& (BitVec.ofInt 64 255)).toNat ≤ 255 := by
    rw [BitVec.toNat_and]
    exact Nat.le_trans Nat.and_le_right (by decide)
  rw [key]
  omega
theorem gdrew {w w' : World} {r : Option Nat} (h : w.grownBy w' r) : w.grownBy w'.drew r := ⟨h.os, h.tape, h.output, h.size, h.block⟩
theorem gtrans {a w w' : World} {r : Option Nat} (h : a.grownBy w r) (k : w.grownBy w' r) : a.grownBy w' r :=
  ⟨k.os.trans h.os, k.tape.trans h.tape, k.output.trans h.output, Nat.le_trans h.size k.size, fun b hb e => (k.block b (Nat.lt_of_lt_of_le hb h.size) e).trans (h.block b hb e)⟩
theorem gset1 (w : World) (b i : Nat) (v : Value) : w.grownBy (w.setCell ⟨b, i, none⟩ v) (some b) :=
  ⟨rfl, rfl, rfl, by simp [World.setCell], fun k _ hr => Below.heap_setCell _ _ _ _ (fun e => hr (by rw [e]))⟩
theorem gsetD {w w' : World} {N : Nat} (h : w.grownBy w' (some N)) (i : Nat) (v : Value) : w.grownBy (w'.setCell ⟨N, i, none⟩ v) (some N) := gtrans h (gset1 _ _ _ _)
/-- A code being drawn from, in block N. -/
structure Dr (N : Nat) (cv : Value) (n : Nat) (w : World) : Prop where
  c0 : w.cell? ⟨N, 0, none⟩ = some cv
  c1 : ∃ p : Nat, p ≤ n ∧ w.cell? ⟨N, 1, none⟩ = some (.int .i64 p)
  c2 : ∃ h : Int, w.cell? ⟨N, 2, none⟩ = some (.int .i64 h)
  f1 : w.frozen? ⟨N, 1, none⟩ = false
  f2 : w.frozen? ⟨N, 2, none⟩ = false
theorem Dr.drew {N n : Nat} {cv : Value} {w : World} (h : Dr N cv n w) : Dr N cv n w.drew := ⟨h.c0, h.c1, h.c2, h.f1, h.f2⟩
theorem Dr.set2 {N n : Nat} {cv : Value} {w : World} (h : Dr N cv n w) (H : Int) : Dr N cv n (w.setCell ⟨N, 2, none⟩ (.int .i64 H)) := by
  obtain ⟨c0, ⟨p, hp, c1⟩, ⟨h, c2⟩, f1, f2⟩ := h
  exact ⟨(World.cell?_setCell_other _ _ _ _ (by simp)).trans c0, ⟨p, hp, (World.cell?_setCell_other _ _ _ _ (by simp)).trans c1⟩, ⟨H, World.cell?_setCell_same _ _ _ c2⟩, (World.frozen?_setCell ..).trans f1, (World.frozen?_setCell ..).trans f2⟩
theorem Dr.set1 {N n : Nat} {cv : Value} {w : World} (h : Dr N cv n w) (q : Int) (p : Nat) (e : q = p) (hp : p ≤ n) : Dr N cv n (w.setCell ⟨N, 1, none⟩ (.int .i64 q)) := by
  obtain ⟨c0, ⟨p', hp', c1⟩, ⟨h, c2⟩, f1, f2⟩ := h
  subst e
  exact ⟨(World.cell?_setCell_other _ _ _ _ (by simp)).trans c0, ⟨p, hp, World.cell?_setCell_same _ _ _ c1⟩, ⟨h, (World.cell?_setCell_other _ _ _ _ (by simp)).trans c2⟩, (World.frozen?_setCell ..).trans f1, (World.frozen?_setCell ..).trans f2⟩
set_option maxRecDepth 100000 in
set_option maxHeartbeats 3200000 in
theorem l1Byte_any (N : Nat) (cv : Value) (cs : List UInt8) (w : World) (hc : BR w cv cs) (hn : cs.length ≤ 4096) (hd : Dr N cv cs.length w) (hlow : ∀ a n c, cv = .slice (some a) n c → 0 < n → a.block ≠ N) :
    Calls Tryz.prog 59 #[.pointer (some ⟨N, 0, none⟩)] w fun x w' => (∃ z : Int, x = .returned (.int .i64 z) ∧ 0 ≤ z ∧ z ≤ 255) ∧ w.grownBy w' (some N) ∧ Dr N cv cs.length w' := by
  have HD : Hid (Dr N cv cs.length w) := hd
  obtain ⟨c0, ⟨p, hp, c1⟩, ⟨h, c2⟩, f1, f2⟩ := hd
  obtain ⟨ao, cap, rfl, hcap, hr⟩ := hc
  by_cases hlt : p < cs.length
  · obtain ⟨b, o, rfl, hx⟩ := hr p hlt
    have hbN : ¬ b = N := hlow _ _ _ rfl (by omega)
    have hNb : ¬ N = b := fun e => hbN e.symm
    have hlt' : decide ((p : Int) < (cs.length : Int)) = true := by simp; omega
    clear hr hlow
    go_enter Tryz.func59, Tryz.ntmps59
    go_wp2
    generalize wrap64 (wrap64 (h * 6364136223846793005) + 1442695040888963407) = H
    go_region
    all_goals go_wp2
    all_goals generalize bits BinOp.and IntKind.i64 (bits BinOp.xor IntKind.i64 (H / 8589934592) (H / 35184372088832)) 255 = z
    all_goals go_region
    all_goals go_wp2
    all_goals go_region
    all_goals go_wp2
    all_goals
      have Z := and255 (wrap64 (z + wrap64 ↑cs[p].toNat))
      go_ret
      refine ⟨⟨_, rfl, Z.1, Z.2⟩, ?_, ?_⟩
      · first | exact gsetD (gsetD (World.grownBy.refl _ _) 2 _) 1 _ | exact gdrew (gsetD (gsetD (World.grownBy.refl _ _) 2 _) 1 _) | exact gdrew (gdrew (gsetD (gsetD (World.grownBy.refl _ _) 2 _) 1 _)) | exact gdrew (gdrew (gdrew (gsetD (gsetD (World.grownBy.refl _ _) 2 _) 1 _)))
      · first | exact ((HD.out.set2 H).set1 _ (p + 1) (by simp) (by omega)).drew.drew.drew | exact ((HD.out.set2 H).set1 _ (p + 1) (by simp) (by omega)).drew.drew | exact ((HD.out.set2 H).set1 _ (p + 1) (by simp) (by omega)).drew
  · obtain rfl : p = cs.length := by omega
    have hlt' : decide ((cs.length : Int) < (cs.length : Int)) = false := by simp
    clear hr hlow
    go_enter Tryz.func59, Tryz.ntmps59
    go_wp2
    generalize wrap64 (wrap64 (h * 6364136223846793005) + 1442695040888963407) = H
    have Z := and255 (bits BinOp.xor IntKind.i64 (H / 8589934592) (H / 35184372088832))
    go_region
    all_goals go_wp2
    all_goals generalize bits BinOp.and IntKind.i64 (bits BinOp.xor IntKind.i64 (H / 8589934592) (H / 35184372088832)) 255 = z at *
    all_goals go_region
    all_goals go_wp2
    all_goals go_ret
    all_goals
      refine ⟨⟨z, rfl, Z.1, Z.2⟩, ?_, ?_⟩
      · first | exact gsetD (World.grownBy.refl _ _) 2 _ | exact gdrew (gsetD (World.grownBy.refl _ _) 2 _) | exact gdrew (gdrew (gsetD (World.grownBy.refl _ _) 2 _))
      · first | exact (HD.out.set2 H).drew.drew | exact (HD.out.set2 H).drew | exact HD.out.set2 H
/-- The code lies apart from the block it is drawn in. -/
def Off (N : Nat) (cv : Value) : Prop := ∀ a n c, cv = .slice (some a) n c → 0 < n → a.block ≠ N
theorem BR.grown {w w' : World} {v : Value} {l : List UInt8} {N : Nat} (h : BR w v l) (hg : w.grownBy w' (some N)) (ho : Off N v) : BR w' v l := by
  obtain ⟨ao, cap, rfl, hle, h⟩ := h
  refine ⟨ao, cap, rfl, hle, fun i hi => ?_⟩
  obtain ⟨b, o, rfl, hc⟩ := h i hi
  exact ⟨b, o, rfl, hg.cell hc (fun e => ho _ _ _ rfl (by omega) (Option.some.inj e))⟩
/-- A draw: the code, its place and the block N. -/
structure Dw (N : Nat) (cv : Value) (cs : List UInt8) (w : World) : Prop where
  br : BR w cv cs
  len : cs.length ≤ 4096
  dr : Dr N cv cs.length w
  off : Off N cv
theorem Dw.byte {N : Nat} {cv : Value} {cs : List UInt8} {w : World} (h : Dw N cv cs w) :
    Calls Tryz.prog 59 #[.pointer (some ⟨N, 0, none⟩)] w fun x w' => (∃ z : Int, x = .returned (.int .i64 z) ∧ 0 ≤ z ∧ z ≤ 255) ∧ w.grownBy w' (some N) ∧ Dw N cv cs w' :=
  (l1Byte_any N cv cs w h.br h.len h.dr h.off).mono fun _ _ ⟨a, g, d⟩ => ⟨a, g, h.br.grown g h.off, h.len, d, h.off⟩
set_option maxRecDepth 100000 in
set_option maxHeartbeats 1600000 in
theorem Dw.below {N : Nat} {cv : Value} {cs : List UInt8} {w : World} (h : Dw N cv cs w) (n : Int) (h0 : 0 < n) (h1 : n ≤ 256) :
    Calls Tryz.prog 33 #[.pointer (some ⟨N, 0, none⟩), .int .i64 n] w fun x w' => (∃ z : Int, x = .returned (.int .i64 z) ∧ 0 ≤ z ∧ z < n) ∧ w.grownBy w' (some N) ∧ Dw N cv cs w' := by
  have B := h.byte
  have e1 : decide (n ≤ 0) = false := by simp; omega
  have e2 : decide (n ≤ 256) = true := by simp; omega
  go_enter Tryz.func33, Tryz.ntmps33
  go_wp2_with fail
  refine B.mono ?_
  rintro x w1 ⟨⟨z, rfl, z0, z1⟩, g1, d1⟩
  clear B
  have nz : ¬ n = 0 := by omega
  have hm : Int.tmod z n = z % n := Int.tmod_eq_emod_of_nonneg z0
  have hm0 : 0 ≤ z % n := Int.emod_nonneg z nz
  have hm1 : z % n < n := Int.emod_lt_of_pos z h0
  go_wp2
  go_ret
  exact ⟨⟨_, rfl, by first | omega | (rw [hm]; omega), by first | omega | (rw [hm]; omega)⟩, g1, d1⟩
set_option maxRecDepth 100000 in
set_option maxHeartbeats 1600000 in
theorem Dw.once {N : Nat} {cv : Value} {cs : List UInt8} {w : World} (h : Dw N cv cs w) (n : Int) (h0 : 0 < n) (h1 : n ≤ 256) :
    Calls Tryz.prog 31 #[.pointer (some ⟨N, 0, none⟩), .int .i64 n] w fun x w' => (∃ b : Bool, x = .returned (.bool b)) ∧ w.grownBy w' (some N) ∧ Dw N cv cs w' := by
  have B := h.below n h0 h1
  go_enter Tryz.func31, Tryz.ntmps31
  go_wp2_with fail
  refine B.mono ?_
  rintro x w1 ⟨⟨z, rfl, z0, z1⟩, g1, d1⟩
  go_wp2
  go_ret
  exact ⟨⟨_, rfl⟩, g1, d1⟩
set_option maxRecDepth 100000 in
set_option maxHeartbeats 1600000 in
theorem l1New_any (cv : Value) (cs : List UInt8) (w : World) (hc : BR w cv cs) (hn : cs.length ≤ 4096) :
    Calls Tryz.prog 29 #[cv] w fun x w' => ∃ N, x = .returned (.pointer (some ⟨N, 0, none⟩)) ∧ w.heap.size ≤ N ∧ N < w'.heap.size ∧ Below w.heap.size w w' ∧ Dw N cv cs w' := by
  have hC := hc
  obtain ⟨ao, cap, rfl, hcap, hr⟩ := hc
  have lt : ∀ a n c, Value.slice ao cs.length cap = .slice (some a) n c → 0 < n → a.block < w.heap.size := by
    intro a n c e hp
    simp only [Value.slice.injEq] at e
    obtain ⟨rfl, rfl, _⟩ := e
    obtain ⟨b, o, e2, hc⟩ := hr 0 hp
    simp only [Option.some.injEq] at e2
    subst e2
    exact World.block_lt_of_cell? _ _ hc
  go_enter Tryz.func29, Tryz.ntmps29
  go_wp2
  go_loopw [3, 4] (fun hv iv wr => ∃ (k : Nat) (H : Int), k ≤ cs.length ∧ iv = .int .i64 k ∧ hv = .int .i64 H ∧ Below w.heap.size w wr) (fun _ iv _ => cs.length - (intOf iv).toNat)
  case atStart => exact ⟨0, _, Nat.zero_le _, rfl, rfl, Below.refl _ _⟩
  case round =>
    obtain ⟨k, H, hk, rfl, rfl, hb⟩ := hrel
    by_cases hlt : k < cs.length
    · obtain ⟨b, o, rfl, hx⟩ := hr k hlt
      have hx1 := cell_later hb hx
      clear hr hx lt hC
      go_wp2
      exact ⟨⟨k + 1, _, by omega, by go_num, rfl, hb⟩, by simp [intOf]; omega⟩
    · obtain rfl : k = cs.length := by omega
      go_wp2
      go_ret
      have hal := bel_after hb (bel_one wr (.cells #[.slice ao cs.length cap, .int .i64 0, .int .i64 H] 89))
      exact ⟨wr.heap.size, rfl, hb.size, by simp, hal, hC.later hal, hn, ⟨by simp, ⟨0, Nat.zero_le _, by simp⟩, ⟨H, by simp⟩, by simp, by simp⟩, fun a n c e hp he => by have := lt a n c e hp; have := hb.size; omega⟩
theorem galloc (w : World) (o : Obj) (r : Option Nat) : w.grownBy (w.alloc o) r := ⟨rfl, rfl, rfl, by simp, fun k hk _ => (bel_one w o).block k hk⟩
theorem gmix {w a b : World} {N : Nat} {row : Option Nat} (h : w.grownBy a (some N)) (g : a.grownBy b row) (hr : ∀ k, row = some k → w.heap.size ≤ k) : w.grownBy b (some N) :=
  ⟨g.os.trans h.os, g.tape.trans h.tape, g.output.trans h.output, Nat.le_trans h.size g.size, fun k hk e => (g.block k (Nat.lt_of_lt_of_le hk h.size) (fun e2 => by have := hr k e2.symm; omega)).trans (h.block k hk e)⟩
theorem Dr.grown {N n : Nat} {cv : Value} {a b : World} {row : Option Nat} (h : Dr N cv n a) (g : a.grownBy b row) (hne : some N ≠ row) (hN : N < a.heap.size) : Dr N cv n b := by
  obtain ⟨c0, ⟨p, hp, c1⟩, ⟨q, c2⟩, f1, f2⟩ := h
  exact ⟨g.cell c0 hne, ⟨p, hp, g.cell c1 hne⟩, ⟨q, g.cell c2 hne⟩, (World.frozen?_of_block (w := a) (g.block N hN hne)).trans f1, (World.frozen?_of_block (w := a) (g.block N hN hne)).trans f2⟩
theorem Dw.grown {N : Nat} {cv : Value} {cs : List UInt8} {w a b : World} {row : Option Nat} (h0 : Dw N cv cs w) (hb : w.grownBy b (some N)) (h : Dw N cv cs a) (g : a.grownBy b row) (hne : some N ≠ row) (hN : N < a.heap.size) : Dw N cv cs b :=
  ⟨h0.br.grown hb h0.off, h0.len, h.dr.grown g hne hN, h0.off⟩
theorem gbel {B N : Nat} {w a b : World} (h : Below B w a) (g : a.grownBy b (some N)) (hB : B ≤ a.heap.size) (hN : B ≤ N) : Below B w b :=
  h.trans ⟨g.os, g.tape, g.output, g.size, fun k hk => g.block k (by omega) (fun e => by have := Option.some.inj e; omega)⟩
theorem byte_of (z : Int) (h0 : 0 ≤ z) (h1 : z ≤ 255) : ((UInt8.ofNat z.toNat).toNat : Int) = z := by
  rw [UInt8.toNat_ofNat']
  omega
theorem big_any (cv : Value) (cs : List UInt8) (w : World) (hc : BR w cv cs) :
    Calls Tryz.prog 7 #[cv] w fun x w' => x = .returned (.bool (decide (4096 < cs.length))) ∧ w' = w := by
  obtain ⟨ao, cap, rfl, hcap, hr⟩ := hc
  have e : decide (4096 < cs.length) = decide ((4096 : Int) < (cs.length : Int)) := by rw [decide_eq_decide]; omega
  rw [e]
  go_enter Tryz.func7, Tryz.ntmps7
  go_wp2
  go_ret
  exact ⟨rfl, rfl⟩

set_option maxRecDepth 100000 in
set_option maxHeartbeats 1600000 in
theorem Dw.wide {N : Nat} {cv : Value} {cs : List UInt8} {w : World} (h : Dw N cv cs w) (n : Int) (h0 : 256 < n) (h1 : n ≤ 1000000) :
    Calls Tryz.prog 33 #[.pointer (some ⟨N, 0, none⟩), .int .i64 n] w fun x w' => (∃ z : Int, x = .returned (.int .i64 z) ∧ 0 ≤ z ∧ z < n) ∧ w.grownBy w' (some N) ∧ Dw N cv cs w' := by
  have B := h.byte
  have e1 : decide (n ≤ 0) = false := by simp; omega
  have e2 : decide (n ≤ 256) = false := by simp; omega
  go_enter Tryz.func33, Tryz.ntmps33
  go_wp2_with fail
  refine B.mono ?_
  rintro x w1 ⟨⟨z1, rfl, p1, q1⟩, g1, d1⟩
  clear B
  go_wp2_with fail
  refine d1.byte.mono ?_
  rintro x w2 ⟨⟨z2, rfl, p2, q2⟩, g2, d2⟩
  go_wp2_with fail
  refine d2.byte.mono ?_
  rintro x w3 ⟨⟨z3, rfl, p3, q3⟩, g3, d3⟩
  go_wp2_with fail
  refine d3.byte.mono ?_
  rintro x w4 ⟨⟨z4, rfl, p4, q4⟩, g4, d4⟩
  have nz : ¬ n = 0 := by omega
  have G := gtrans (gtrans (gtrans g1 g2) g3) g4
  clear g1 g2 g3 g4 d1 d2 d3
  have z0 : 0 ≤ z1 * 16777216 + z2 * 65536 + z3 * 256 + z4 := by omega
  have hm : Int.tmod (z1 * 16777216 + z2 * 65536 + z3 * 256 + z4) n = (z1 * 16777216 + z2 * 65536 + z3 * 256 + z4) % n := Int.tmod_eq_emod_of_nonneg z0
  have hm0 : 0 ≤ (z1 * 16777216 + z2 * 65536 + z3 * 256 + z4) % n := Int.emod_nonneg _ nz
  have hm1 : (z1 * 16777216 + z2 * 65536 + z3 * 256 + z4) % n < n := Int.emod_lt_of_pos _ (by omega)
  go_wp2
  go_ret
  exact ⟨⟨_, rfl, by first | omega | (rw [hm]; omega), by first | omega | (rw [hm]; omega)⟩, G, d4⟩
theorem Dw.less {N : Nat} {cv : Value} {cs : List UInt8} {w : World} (h : Dw N cv cs w) (n : Int) (h0 : 0 < n) (h1 : n ≤ 1000000) :
    Calls Tryz.prog 33 #[.pointer (some ⟨N, 0, none⟩), .int .i64 n] w fun x w' => (∃ z : Int, x = .returned (.int .i64 z) ∧ 0 ≤ z ∧ z < n) ∧ w.grownBy w' (some N) ∧ Dw N cv cs w' := by
  by_cases k : n ≤ 256
  · exact h.below n h0 k
  · exact h.wide n (by omega) h1
set_option maxHeartbeats 1600000 in
theorem Dw.fromI {N : Nat} {cv : Value} {cs : List UInt8} {w : World} (h : Dw N cv cs w) (lo hi : Int) (h0 : 0 < hi - lo + 1) (h1 : hi - lo + 1 ≤ 1000000) (l0 : -1000000 ≤ lo) (l1 : lo ≤ 1000000) :
    Calls Tryz.prog 32 #[.pointer (some ⟨N, 0, none⟩), .int .i64 lo, .int .i64 hi] w fun x w' => (∃ z : Int, x = .returned (.int .i64 z) ∧ lo ≤ z ∧ z ≤ hi) ∧ w.grownBy w' (some N) ∧ Dw N cv cs w' := by
  have B := h.less (hi - lo + 1) h0 h1
  go_enter Tryz.func32, Tryz.ntmps32
  go_wp2_with fail
  refine B.mono ?_
  rintro x w1 ⟨⟨z, rfl, z0, z1⟩, g1, d1⟩
  go_wp2
  go_ret
  exact ⟨⟨_, rfl, by omega, by omega⟩, g1, d1⟩

end Go.Proofs.YtgacacbncefeaaaGreat
