/- A Code that is drawn for the laws: DrawCodeOk and DrawShowCode of the model. -/
import Derived.Test.YtimkdjolipnahaaDoorZQDraw
namespace Go.Proofs.YtimkdjolipnahaaDoor
open Go.RowKit

theorem lit_cell {w w' : World} {N : Nat} {C : Array Value} (g : (w.alloc (.cells C 2)).grownBy w' (some N)) (hN : N < w.heap.size) (hC : C.toList.all isIQ = true) (z : Nat) (hz : z < C.size) : ∃ m : Int, w'.cell? ⟨w.heap.size, z, none⟩ = some (.int .i64 m) := by
  obtain ⟨m, hm⟩ := lit_at C hC z hz
  exact ⟨m, ((Bk.new w C 2).off g (fun e => by have e2 := Option.some.inj e; omega)).cell z _ hm⟩

/-- As CX, in a function that opens the code itself: wb is the world behind that. -/
structure CY (w0 wb : World) (N R X : Nat) (cv : Value) (cs : List UInt8) (op n : Int) (w : World) : Prop where
  b : Below w0.heap.size w0 wb
  g : wb.grownBy w (some N)
  d0 : Dw N cv cs wb
  d : Dw N cv cs w
  hN : N < wb.heap.size
  lN : w0.heap.size ≤ N
  r : Bk w R #[.int .i64 0, .int .i64 0] 25
  x : Bk w X #[.int .i64 op, .int .i64 n] 25
  hX : wb.heap.size ≤ X
  lR : w0.heap.size ≤ R
  rn : R ≠ N
  ne : R ≠ X
section
variable {w0 wb w : World} {N R X : Nat} {cv : Value} {cs : List UInt8} {op n : Int}
theorem CY.nlt (h : CY w0 wb N R X cv cs op n w) : N < w.heap.size := Nat.lt_of_lt_of_le h.hN h.g.size
theorem CY.low (h : CY w0 wb N R X cv cs op n w) : Below w0.heap.size w0 w := gbel h.b h.g h.b.size h.lN
theorem CY.call {w' : World} (h : CY w0 wb N R X cv cs op n w) (g : w.grownBy w' (some N)) (d : Dw N cv cs w') : CY w0 wb N R X cv cs op n w' :=
  ⟨h.b, gtrans h.g g, h.d0, d, h.hN, h.lN, h.r.off g (fun e => h.rn (Option.some.inj e)), h.x.off g (fun e => by have e2 := Option.some.inj e; have := h.hX; have := h.hN; omega), h.hX, h.lR, h.rn, h.ne⟩
theorem CY.alloc (h : CY w0 wb N R X cv cs op n w) (o : Obj) : CY w0 wb N R X cv cs op n (w.alloc o) := h.call (galloc _ _ _) (h.d.grown (galloc _ _ _) h.d (galloc _ _ none) (by simp) h.nlt)
theorem CY.set (h : CY w0 wb N R X cv cs op n w) (j : Nat) (v : Value) {op' n' : Int} (e : (#[.int .i64 op, .int .i64 n] : Array Value).setIfInBounds j v = #[.int .i64 op', .int .i64 n']) : CY w0 wb N R X cv cs op' n' (w.setCell ⟨X, j, none⟩ v) := by
  have g1 : w.grownBy (w.setCell ⟨X, j, none⟩ v) (some X) := gset1 _ _ _ _
  have g2 : wb.grownBy (w.setCell ⟨X, j, none⟩ v) (some N) := gmix h.g g1 (fun k hk => by cases hk; exact h.hX)
  refine ⟨h.b, g2, h.d0, h.d0.grown g2 h.d g1 (fun e => ?_) h.nlt, h.hN, h.lN, h.r.setOff h.ne j v, ?_, h.hX, h.lR, h.rn, h.ne⟩
  · have e2 := Option.some.inj e
    have := h.hX
    have := h.hN
    omega
  · have := h.x.set j v
    rw [e] at this
    exact this
theorem CY.fin {w' : World} (h : CY w0 wb N R X cv cs op n w) (g : w.grownBy w' (some R)) : Below w0.heap.size w0 w' := bel_set h.low g h.lR
end

set_option maxRecDepth 100000 in
set_option maxHeartbeats 3200000 in
theorem drawCodeOk_any (cv : Value) (cs : List UInt8) (w : World) (hc : BR w cv cs) (hn : cs.length ≤ 4096) :
    Calls Tryd.prog 16 #[cv] w fun x w' => (∃ a b : Int, x = .returned (codeV a b)) ∧ Below w.heap.size w w' := by
  have hb0 := qbel w (.cells #[.int .i64 0, .int .i64 0] 25)
  have r0 := Bk.new w #[.int .i64 0, .int .i64 0] 25
  go_enter Tryd.func16, Tryd.ntmps16
  go_wp2_with fail
  refine (l1New_any cv cs _ (hc.later hb0) hn).mono ?_
  rintro x w1 ⟨N, rfl, n0, n1, hb1, d1⟩
  rw [World.size_alloc] at n0
  have C1 := d1.code n1
  unfold codeV at C1
  have hbw := bel_afterQ hb0 hb1
  replace r0 := r0.later hb1
  go_wp2_with fail
  refine C1.mono ?_
  rintro x w2 ⟨⟨a, b, rfl⟩, g2, d2⟩
  have cy1 : CY w w1 N w.heap.size w2.heap.size cv cs a b (w2.alloc (.cells #[.int .i64 a, .int .i64 b] 25)) := by
    have sz := g2.size
    have rl := r0.lt
    refine ⟨hbw, gtrans g2 (galloc _ _ _), d1, d2.grown (galloc _ _ _) d2 (galloc _ _ none) (by simp) (by omega), n1, by omega, (r0.off g2 (fun e => ?_)).alloc _, Bk.new _ _ _, sz, Nat.le_refl _, by omega, by omega⟩
    have e2 := Option.some.inj e
    omega
  have O1 := cy1.d.once 6 (by omega) (by omega)
  clear C1 hbw r0 hb1 hb0 g2 d2 d1 n0 n1 hc
  go_wp2_with fail
  refine O1.mono ?_
  rintro x w3 ⟨⟨c, rfl⟩, g3, d3⟩
  have cy2 := cy1.call g3 d3
  clear O1 g3 d3 cy1
  generalize w2.heap.size = X at cy2 ⊢
  generalize hRe : w.heap.size = R at cy2 ⊢

  cases c
  · have b0 : w3.cell? ⟨X, 0, none⟩ = some (.int .i64 a) := cy2.x.cell 0 _ rfl
    have b1 : w3.cell? ⟨X, 1, none⟩ = some (.int .i64 b) := cy2.x.cell 1 _ rfl
    obtain ⟨w9, hrun, k9, hg9, _⟩ := cy2.r.store 25 #[.int .i64 a, .int .i64 b] rfl (by kernel_rfl) (by kernel_rfl)
    have a0 : w9.cell? ⟨R, 0, none⟩ = some (.int .i64 a) := k9.cell 0 _ rfl
    have a1 : w9.cell? ⟨R, 1, none⟩ = some (.int .i64 b) := k9.cell 1 _ rfl
    have F : Hid (Below w.heap.size w w9) := cy2.fin hg9
    clear k9 hg9 cy2
    go_wp2_with (refine store_q hrun rfl _ _ rfl rfl rfl rfl ?_)
    exact bodyPost_ret (v := .agg #[.int .i64 a, .int .i64 b]) (by simp [results, Tryd.results16, go_sem, a0, a1]) rfl ⟨⟨a, b, rfl⟩, by first | exact F.out | (rw [← hRe]; exact F.out)⟩
  · go_wp2_with fail
    refine (cy2.d.below 2 (by omega) (by omega)).mono ?_
    rintro x w4 ⟨⟨z, rfl, z0, z1⟩, g4, d4⟩
    have cy3 := cy2.call g4 d4
    have hL := cy3.nlt
    clear g4 d4 cy2
    obtain rfl | rfl : z = 0 ∨ z = 1 := by omega
    · go_wp2_with fail
      refine ((cy3.alloc _).d.below 4 (by omega) (by omega)).mono ?_
      rintro x w5 ⟨⟨u, rfl, u0, u1⟩, g5, d5⟩
      have cy5 := (cy3.alloc _).call g5 d5
      obtain ⟨un, rfl⟩ := Int.eq_ofNat_of_zero_le u0
      obtain ⟨m, cl⟩ := lit_cell g5 hL (by rfl) un (by simp; omega)
      have u2 : (un : Int) < 4 := by omega
      clear g5 d5 cy3 hL
      have c1 : w5.cell? ⟨X, 0, none⟩ = some (.int .i64 a) := cy5.x.cell 0 _ rfl
      have f1 : w5.frozen? ⟨X, 0, none⟩ = false := cy5.x.frozen 0
      have st := store_one f1 c1 (v := m)
      have cy6 : CY w w1 N R X cv cs m b (w5.setCell ⟨X, 0, none⟩ (.int .i64 m)) := cy5.set 0 _ rfl
      generalize w5.setCell ⟨X, 0, none⟩ (.int .i64 m) = w6 at st cy6
      clear c1 f1 cy5
      have b0 : w6.cell? ⟨X, 0, none⟩ = some (.int .i64 m) := cy6.x.cell 0 _ rfl
      have b1 : w6.cell? ⟨X, 1, none⟩ = some (.int .i64 b) := cy6.x.cell 1 _ rfl
      obtain ⟨w9, hrun, k9, hg9, _⟩ := cy6.r.store 25 #[.int .i64 m, .int .i64 b] rfl (by kernel_rfl) (by kernel_rfl)
      have a0 : w9.cell? ⟨R, 0, none⟩ = some (.int .i64 m) := k9.cell 0 _ rfl
      have a1 : w9.cell? ⟨R, 1, none⟩ = some (.int .i64 b) := k9.cell 1 _ rfl
      have F : Hid (Below w.heap.size w w9) := cy6.fin hg9
      clear k9 hg9 cy6
      go_wp2_with (first | (refine store_q st rfl _ _ rfl rfl rfl rfl ?_) | refine store_q hrun rfl _ _ rfl rfl rfl rfl ?_)
      exact bodyPost_ret (v := .agg #[.int .i64 m, .int .i64 b]) (by simp [results, Tryd.results16, go_sem, a0, a1]) rfl ⟨⟨m, b, rfl⟩, by first | exact F.out | (rw [← hRe]; exact F.out)⟩
    · go_wp2_with fail
      refine ((cy3.alloc _).d.below 8 (by omega) (by omega)).mono ?_
      rintro x w5 ⟨⟨u, rfl, u0, u1⟩, g5, d5⟩
      have cy5 := (cy3.alloc _).call g5 d5
      obtain ⟨un, rfl⟩ := Int.eq_ofNat_of_zero_le u0
      obtain ⟨m, cl⟩ := lit_cell g5 hL (by rfl) un (by simp; omega)
      have u2 : (un : Int) < 8 := by omega
      clear g5 d5 cy3 hL
      have c1 : w5.cell? ⟨X, 1, none⟩ = some (.int .i64 b) := cy5.x.cell 1 _ rfl
      have f1 : w5.frozen? ⟨X, 1, none⟩ = false := cy5.x.frozen 1
      have st := store_one f1 c1 (v := m)
      have cy6 : CY w w1 N R X cv cs a m (w5.setCell ⟨X, 1, none⟩ (.int .i64 m)) := cy5.set 1 _ rfl
      generalize w5.setCell ⟨X, 1, none⟩ (.int .i64 m) = w6 at st cy6
      clear c1 f1 cy5
      have b0 : w6.cell? ⟨X, 0, none⟩ = some (.int .i64 a) := cy6.x.cell 0 _ rfl
      have b1 : w6.cell? ⟨X, 1, none⟩ = some (.int .i64 m) := cy6.x.cell 1 _ rfl
      obtain ⟨w9, hrun, k9, hg9, _⟩ := cy6.r.store 25 #[.int .i64 a, .int .i64 m] rfl (by kernel_rfl) (by kernel_rfl)
      have a0 : w9.cell? ⟨R, 0, none⟩ = some (.int .i64 a) := k9.cell 0 _ rfl
      have a1 : w9.cell? ⟨R, 1, none⟩ = some (.int .i64 m) := k9.cell 1 _ rfl
      have F : Hid (Below w.heap.size w w9) := cy6.fin hg9
      clear k9 hg9 cy6
      go_wp2_with (first | (refine store_q st rfl _ _ rfl rfl rfl rfl ?_) | refine store_q hrun rfl _ _ rfl rfl rfl rfl ?_)
      exact bodyPost_ret (v := .agg #[.int .i64 a, .int .i64 m]) (by simp [results, Tryd.results16, go_sem, a0, a1]) rfl ⟨⟨a, m, rfl⟩, by first | exact F.out | (rw [← hRe]; exact F.out)⟩

theorem drawShowCode_any (cv : Value) (cs : List UInt8) (w : World) (hc : BR w cv cs) (hn : cs.length ≤ 4096) :
    Calls Tryd.prog 6 #[cv] w fun x w' => (∃ a b : Int, x = .returned (codeV a b)) ∧ Below w.heap.size w w' := by
  have hb0 := qbel w (.cells #[.int .i64 0, .int .i64 0] 25)
  have r0 := Bk.new w #[.int .i64 0, .int .i64 0] 25
  have C1 := drawCodeOk_any cv cs _ (hc.later hb0) hn
  unfold codeV at *
  go_enter Tryd.func6, Tryd.ntmps6
  go_wp2_with fail
  refine C1.mono ?_
  rintro x w1 ⟨⟨a, b, rfl⟩, hb1⟩
  have hbw := bel_afterQ hb0 hb1
  replace r0 := r0.later hb1
  obtain ⟨w9, hrun, k9, hg9, _⟩ := r0.store 25 #[.int .i64 a, .int .i64 b] rfl (by kernel_rfl) (by kernel_rfl)
  have a0 : w9.cell? ⟨w.heap.size, 0, none⟩ = some (.int .i64 a) := k9.cell 0 _ rfl
  have a1 : w9.cell? ⟨w.heap.size, 1, none⟩ = some (.int .i64 b) := k9.cell 1 _ rfl
  have F : Hid (Below w.heap.size w w9) := bel_set hbw hg9 (Nat.le_refl _)
  clear k9 hg9 hbw hb1 hb0 C1 hc r0
  go_wp2_with (refine store_q hrun rfl _ _ rfl rfl rfl rfl ?_)
  exact bodyPost_ret (v := .agg #[.int .i64 a, .int .i64 b]) (by simp [results, Tryd.results6, go_sem, a0, a1]) rfl ⟨⟨a, b, rfl⟩, F.out⟩

end Go.Proofs.YtimkdjolipnahaaDoor
