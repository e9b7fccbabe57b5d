/- A Code that is drawn: l12Draw, DrawCodeOk and DrawShowCode of the model. -/
import Derived.Test.YtimkdjolipnahaaDoorZHDraw
import Derived.Test.YtimkdjolipnahaaDoorZQRdI
namespace Go.Proofs.YtimkdjolipnahaaDoor
open Go.RowKit

theorem bnd_facts (op : Int) : (bndL op = -1000000000 ∨ bndL op = 0) ∧ 0 ≤ bndH op ∧ bndH op ≤ 1000000000 := by
  unfold bndL bndH
  refine ⟨by split <;> simp, ?_⟩
  repeat' split
  all_goals omega
theorem qMax_any (a b : Int) (w : World) :
    Calls Tryd.prog 43 #[.int .i64 a, .int .i64 b] w fun e w' => (∃ z : Int, e = .returned (.int .i64 z) ∧ a ≤ z ∧ b ≤ z ∧ (z = a ∨ z = b)) ∧ w' = w := by
  by_cases h : b < a
  · have d : decide (b < a) = true := decide_eq_true h
    go_enter Tryd.func43, Tryd.ntmps43
    go_wp2
    go_ret
    exact ⟨⟨a, rfl, Int.le_refl _, by omega, .inl rfl⟩, rfl⟩
  · have d : decide (b < a) = false := decide_eq_false h
    go_enter Tryd.func43, Tryd.ntmps43
    go_wp2
    go_ret
    exact ⟨⟨b, rfl, by omega, Int.le_refl _, .inr rfl⟩, rfl⟩
theorem qMin_any (a b : Int) (w : World) :
    Calls Tryd.prog 44 #[.int .i64 a, .int .i64 b] w fun e w' => (∃ z : Int, e = .returned (.int .i64 z) ∧ z ≤ a ∧ z ≤ b ∧ (z = a ∨ z = b)) ∧ w' = w := by
  by_cases h : a < b
  · have d : decide (a < b) = true := decide_eq_true h
    go_enter Tryd.func44, Tryd.ntmps44
    go_wp2
    go_ret
    exact ⟨⟨a, rfl, Int.le_refl _, by omega, .inl rfl⟩, rfl⟩
  · have d : decide (a < b) = false := decide_eq_false h
    go_enter Tryd.func44, Tryd.ntmps44
    go_wp2
    go_ret
    exact ⟨⟨b, rfl, by omega, Int.le_refl _, .inr rfl⟩, rfl⟩

/-- A number of a list that is written out. -/
def isIQ : Value → Bool
  | .int .i64 _ => true
  | _ => false
theorem lit_at (C : Array Value) (hC : C.toList.all isIQ = true) (z : Nat) (hz : z < C.size) : ∃ m : Int, C[z]? = some (.int .i64 m) := by
  have h1 : isIQ C[z] = true := List.all_eq_true.1 hC _ (by simp)
  rw [Array.getElem?_eq_getElem hz]
  unfold isIQ at h1
  split at h1
  · rename_i m e
    exact ⟨m, by rw [e]⟩
  · cases h1

/-- A Code that is being drawn: the answer's box R, the Code's own box X, the code's block N. -/
structure CX (w0 : World) (N R X : Nat) (cv : Value) (cs : List UInt8) (op n : Int) (w : World) : Prop where
  g : w0.grownBy w (some N)
  d : Dw N cv cs w
  d0 : Dw N cv cs w0
  hN : N < w0.heap.size
  r : Bk w R #[.int .i64 0, .int .i64 0] 25
  x : Bk w X #[.int .i64 op, .int .i64 n] 25
  hR : w0.heap.size ≤ R
  hX : w0.heap.size ≤ X
  ne : R ≠ X
section
variable {w0 w : World} {N R X : Nat} {cv : Value} {cs : List UInt8} {op n : Int}
theorem CX.call {w' : World} (h : CX w0 N R X cv cs op n w) (g : w.grownBy w' (some N)) (d : Dw N cv cs w') : CX w0 N R X cv cs op n w' :=
  ⟨gtrans h.g g, d, h.d0, h.hN, h.r.off g (fun e => by have e2 := Option.some.inj e; have := h.hR; have := h.hN; omega), h.x.off g (fun e => by have e2 := Option.some.inj e; have := h.hX; have := h.hN; omega), h.hR, h.hX, h.ne⟩
theorem CX.nlt (h : CX w0 N R X cv cs op n w) : N < w.heap.size := Nat.lt_of_lt_of_le h.hN h.g.size
theorem CX.alloc (h : CX w0 N R X cv cs op n w) (o : Obj) : CX w0 N R X cv cs op n (w.alloc o) := h.call (galloc _ _ _) (h.d.grown (galloc _ _ _) h.d (galloc _ _ none) (by simp) h.nlt)
theorem CX.set (h : CX w0 N R X cv cs op n w) (j : Nat) (v : Value) {op' n' : Int} (e : (#[.int .i64 op, .int .i64 n] : Array Value).setIfInBounds j v = #[.int .i64 op', .int .i64 n']) : CX w0 N R X cv cs op' n' (w.setCell ⟨X, j, none⟩ v) := by
  have g1 : w.grownBy (w.setCell ⟨X, j, none⟩ v) (some X) := gset1 _ _ _ _
  have g2 : w0.grownBy (w.setCell ⟨X, j, none⟩ v) (some N) := gmix h.g g1 (fun k hk => by cases hk; exact h.hX)
  refine ⟨g2, h.d0.grown g2 h.d g1 (fun e => ?_) h.nlt, h.d0, h.hN, h.r.setOff h.ne j v, ?_, h.hR, h.hX, h.ne⟩
  · have e2 := Option.some.inj e
    have := h.hX
    have := h.hN
    omega
  · have := h.x.set j v
    rw [e] at this
    exact this
theorem CX.fin {w' : World} (h : CX w0 N R X cv cs op n w) (g : w.grownBy w' (some R)) : w0.grownBy w' (some N) ∧ Dw N cv cs w' := by
  have g2 : w0.grownBy w' (some N) := gmix h.g g (fun k hk => by cases hk; exact h.hR)
  exact ⟨g2, h.d0.grown g2 h.d g (fun e => by have e2 := Option.some.inj e; have := h.hR; have := h.hN; omega) h.nlt⟩
end

set_option maxRecDepth 100000 in
set_option maxHeartbeats 3200000 in
theorem Dw.code {N : Nat} {cv : Value} {cs : List UInt8} {w : World} (h : Dw N cv cs w) (hN : N < w.heap.size) :
    Calls Tryd.prog 29 #[.pointer (some ⟨N, 0, none⟩)] w fun x w' => (∃ a b : Int, x = .returned (codeV a b)) ∧ w.grownBy w' (some N) ∧ Dw N cv cs w' := by
  have LB := l12Bounds_any
  have D0 := h.grown (galloc w (.cells #[.int .i64 0, .int .i64 0] 25) _) h (galloc _ _ none) (by simp) hN
  have r0 := Bk.new w #[.int .i64 0, .int .i64 0] 25
  go_enter Tryd.func29, Tryd.ntmps29
  go_wp2_with fail
  refine (D0.below 20 (by omega) (by omega)).mono ?_
  rintro x w1 ⟨⟨z, rfl, z0, z1⟩, g1, d1⟩
  have sz1 := g1.size
  rw [World.size_alloc] at sz1
  have cx1 : CX w N w.heap.size w1.heap.size cv cs (1 + z) 0 (w1.alloc (.cells #[.int .i64 (1 + z), .int .i64 0] 25)) := by
    have gg : w.grownBy (w1.alloc (.cells #[.int .i64 (1 + z), .int .i64 0] 25)) (some N) := gtrans (gtrans (galloc _ _ _) g1) (galloc _ _ _)
    refine ⟨gg, h.grown gg d1 (galloc _ _ none) (by simp) (by omega), h, hN, (r0.off g1 (fun e => ?_)).alloc _, Bk.new _ _ _, Nat.le_refl _, by omega, by omega⟩
    have e2 := Option.some.inj e
    omega
  clear g1 d1 sz1 r0 D0
  have LB2 := fun w => LB (1 + z) w
  have BF := bnd_facts (1 + z)
  generalize bndL (1 + z) = lo at LB2 BF
  generalize bndH (1 + z) = hi at LB2 BF
  generalize hasN (1 + z) = hs at LB2
  clear LB
  obtain ⟨bf0, bf1, bf2⟩ := BF
  go_wp2_with fail
  refine (LB2 _).mono ?_
  rintro e w3 ⟨rfl, hw3⟩
  rw [← hw3] at cx1
  clear hw3 LB2 z0 z1
  generalize 1 + z = op at cx1
  generalize w1.heap.size = X at cx1 ⊢
  generalize w.heap.size = R at cx1 ⊢
  have TS : (op == 5) = true ∨ ((op == 5) = false ∧ (op == 6) = true) ∨ ((op == 5) = false ∧ (op == 6) = false ∧ (op == 2) = true) ∨ ((op == 5) = false ∧ (op == 6) = false ∧ (op == 2) = false ∧ (op == 3) = true) ∨ ((op == 5) = false ∧ (op == 6) = false ∧ (op == 2) = false ∧ (op == 3) = false) := by
    cases (op == 5) <;> cases (op == 6) <;> cases (op == 2) <;> cases (op == 3) <;> simp
  cases hs
  · clear TS
    have b0 : w3.cell? ⟨X, 0, none⟩ = some (.int .i64 op) := cx1.x.cell 0 _ rfl
    have b1 : w3.cell? ⟨X, 1, none⟩ = some (.int .i64 0) := cx1.x.cell 1 _ rfl
    obtain ⟨w9, hrun, k9, hg9, _⟩ := cx1.r.store 25 #[.int .i64 op, .int .i64 0] rfl (by kernel_rfl) (by kernel_rfl)
    have a0 : w9.cell? ⟨R, 0, none⟩ = some (.int .i64 op) := k9.cell 0 _ rfl
    have a1 : w9.cell? ⟨R, 1, none⟩ = some (.int .i64 0) := k9.cell 1 _ rfl
    have F : Hid (w.grownBy w9 (some N) ∧ Dw N cv cs w9) := cx1.fin hg9
    clear k9 hg9 cx1
    go_wp2_with (refine store_q hrun rfl _ _ rfl rfl rfl rfl ?_)
    exact bodyPost_ret (v := .agg #[.int .i64 op, .int .i64 0]) (by simp [results, Tryd.results29, go_sem, a0, a1]) rfl ⟨⟨op, 0, rfl⟩, F.out⟩
  · go_wp2_with fail
    refine (qMax_any _ _ _).mono ?_
    rintro e w4 ⟨⟨lo', rfl, m0, m1, m2⟩, rfl⟩
    go_wp2_with fail
    refine (qMin_any _ _ _).mono ?_
    rintro e w5 ⟨⟨hi', rfl, n0, n1, n2⟩, rfl⟩
    go_wp2_with fail
    refine (cx1.d.fromI lo' hi' (by omega) (by omega) (by omega) (by omega)).mono ?_
    rintro e w6 ⟨⟨yf, rfl, y0, y1⟩, g6, d6⟩
    have cx2 := cx1.call g6 d6
    clear g6 d6 cx1 m0 m1 m2 n0 n1 n2 y0 y1
    have c1 : w6.cell? ⟨X, 1, none⟩ = some (.int .i64 0) := cx2.x.cell 1 _ rfl
    have f1 : w6.frozen? ⟨X, 1, none⟩ = false := cx2.x.frozen 1
    have st := store_one f1 c1 (v := yf)
    have cx3 : CX w N R X cv cs op yf (w6.setCell ⟨X, 1, none⟩ (.int .i64 yf)) := cx2.set 1 _ rfl
    generalize w6.setCell ⟨X, 1, none⟩ (.int .i64 yf) = w10 at st cx3
    clear c1 f1 cx2
    go_wp2_with (refine store_q st rfl _ _ rfl rfl rfl rfl ?_)
    refine (cx3.d.once 8 (by omega) (by omega)).mono ?_
    rintro e w11 ⟨⟨b, rfl⟩, g11, d11⟩
    have cx4 := cx3.call g11 d11
    clear g11 d11 cx3 st
    cases b
    · have c0 : w11.cell? ⟨X, 0, none⟩ = some (.int .i64 op) := cx4.x.cell 0 _ rfl
      have c1 : w11.cell? ⟨X, 1, none⟩ = some (.int .i64 yf) := cx4.x.cell 1 _ rfl
      have f1 : w11.frozen? ⟨X, 1, none⟩ = false := cx4.x.frozen 1
      rcases TS with h5 | ⟨h5, h6⟩ | ⟨h5, h6, h2⟩ | ⟨h5, h6, h2, h3⟩ | ⟨h5, h6, h2, h3⟩
      · go_wp2_with fail
        refine (cx4.d.below 4 (by omega) (by omega)).mono ?_
        rintro x w7 ⟨⟨y, rfl, y0, y1⟩, g7, d7⟩
        have cx7 := cx4.call g7 d7
        clear g7 d7 cx4 c0 c1 f1
        have cx8 : CX w N R X cv cs op y (w7.setCell ⟨X, 1, none⟩ (.int .i64 y)) := cx7.set 1 _ rfl
        have c1 : w7.cell? ⟨X, 1, none⟩ = some (.int .i64 yf) := cx7.x.cell 1 _ rfl
        have f1 : w7.frozen? ⟨X, 1, none⟩ = false := cx7.x.frozen 1
        have st := store_one f1 c1 (v := y)
        generalize w7.setCell ⟨X, 1, none⟩ (.int .i64 y) = w8 at st cx8
        clear c1 f1 cx7
        have b0 : w8.cell? ⟨X, 0, none⟩ = some (.int .i64 op) := cx8.x.cell 0 _ rfl
        have b1 : w8.cell? ⟨X, 1, none⟩ = some (.int .i64 y) := cx8.x.cell 1 _ rfl
        obtain ⟨w9, hrun, k9, hg9, _⟩ := cx8.r.store 25 #[.int .i64 op, .int .i64 y] rfl (by kernel_rfl) (by kernel_rfl)
        have a0 : w9.cell? ⟨R, 0, none⟩ = some (.int .i64 op) := k9.cell 0 _ rfl
        have a1 : w9.cell? ⟨R, 1, none⟩ = some (.int .i64 y) := k9.cell 1 _ rfl
        have F : Hid (w.grownBy w9 (some N) ∧ Dw N cv cs w9) := cx8.fin hg9
        clear k9 hg9 cx8
        go_wp2_with (first | (refine store_q st rfl _ _ rfl rfl rfl rfl ?_) | (refine store_q hrun rfl _ _ rfl rfl rfl rfl ?_))
        exact bodyPost_ret (v := .agg #[.int .i64 op, .int .i64 y]) (by simp [results, Tryd.results29, go_sem, a0, a1]) rfl ⟨⟨op, y, rfl⟩, F.out⟩
      · go_wp2_with fail
        refine (cx4.d.below 4 (by omega) (by omega)).mono ?_
        rintro x w7 ⟨⟨y, rfl, y0, y1⟩, g7, d7⟩
        have cx7 := cx4.call g7 d7
        clear g7 d7 cx4 c0 c1 f1
        have cx8 : CX w N R X cv cs op y (w7.setCell ⟨X, 1, none⟩ (.int .i64 y)) := cx7.set 1 _ rfl
        have c1 : w7.cell? ⟨X, 1, none⟩ = some (.int .i64 yf) := cx7.x.cell 1 _ rfl
        have f1 : w7.frozen? ⟨X, 1, none⟩ = false := cx7.x.frozen 1
        have st := store_one f1 c1 (v := y)
        generalize w7.setCell ⟨X, 1, none⟩ (.int .i64 y) = w8 at st cx8
        clear c1 f1 cx7
        have b0 : w8.cell? ⟨X, 0, none⟩ = some (.int .i64 op) := cx8.x.cell 0 _ rfl
        have b1 : w8.cell? ⟨X, 1, none⟩ = some (.int .i64 y) := cx8.x.cell 1 _ rfl
        obtain ⟨w9, hrun, k9, hg9, _⟩ := cx8.r.store 25 #[.int .i64 op, .int .i64 y] rfl (by kernel_rfl) (by kernel_rfl)
        have a0 : w9.cell? ⟨R, 0, none⟩ = some (.int .i64 op) := k9.cell 0 _ rfl
        have a1 : w9.cell? ⟨R, 1, none⟩ = some (.int .i64 y) := k9.cell 1 _ rfl
        have F : Hid (w.grownBy w9 (some N) ∧ Dw N cv cs w9) := cx8.fin hg9
        clear k9 hg9 cx8
        go_wp2_with (first | (refine store_q st rfl _ _ rfl rfl rfl rfl ?_) | (refine store_q hrun rfl _ _ rfl rfl rfl rfl ?_))
        exact bodyPost_ret (v := .agg #[.int .i64 op, .int .i64 y]) (by simp [results, Tryd.results29, go_sem, a0, a1]) rfl ⟨⟨op, y, rfl⟩, F.out⟩
      · go_wp2_with fail
        refine (cx4.d.below 4 (by omega) (by omega)).mono ?_
        rintro x w7 ⟨⟨y, rfl, y0, y1⟩, g7, d7⟩
        have cx7 := cx4.call g7 d7
        clear g7 d7 cx4 c0 c1 f1
        have cx8 : CX w N R X cv cs op y (w7.setCell ⟨X, 1, none⟩ (.int .i64 y)) := cx7.set 1 _ rfl
        have c1 : w7.cell? ⟨X, 1, none⟩ = some (.int .i64 yf) := cx7.x.cell 1 _ rfl
        have f1 : w7.frozen? ⟨X, 1, none⟩ = false := cx7.x.frozen 1
        have st := store_one f1 c1 (v := y)
        generalize w7.setCell ⟨X, 1, none⟩ (.int .i64 y) = w8 at st cx8
        clear c1 f1 cx7
        have b0 : w8.cell? ⟨X, 0, none⟩ = some (.int .i64 op) := cx8.x.cell 0 _ rfl
        have b1 : w8.cell? ⟨X, 1, none⟩ = some (.int .i64 y) := cx8.x.cell 1 _ rfl
        obtain ⟨w9, hrun, k9, hg9, _⟩ := cx8.r.store 25 #[.int .i64 op, .int .i64 y] rfl (by kernel_rfl) (by kernel_rfl)
        have a0 : w9.cell? ⟨R, 0, none⟩ = some (.int .i64 op) := k9.cell 0 _ rfl
        have a1 : w9.cell? ⟨R, 1, none⟩ = some (.int .i64 y) := k9.cell 1 _ rfl
        have F : Hid (w.grownBy w9 (some N) ∧ Dw N cv cs w9) := cx8.fin hg9
        clear k9 hg9 cx8
        go_wp2_with (first | (refine store_q st rfl _ _ rfl rfl rfl rfl ?_) | (refine store_q hrun rfl _ _ rfl rfl rfl rfl ?_))
        exact bodyPost_ret (v := .agg #[.int .i64 op, .int .i64 y]) (by simp [results, Tryd.results29, go_sem, a0, a1]) rfl ⟨⟨op, y, rfl⟩, F.out⟩
      · go_wp2_with fail
        refine (cx4.d.below 4 (by omega) (by omega)).mono ?_
        rintro x w7 ⟨⟨y, rfl, y0, y1⟩, g7, d7⟩
        have cx7 := cx4.call g7 d7
        clear g7 d7 cx4 c0 c1 f1
        have cx8 : CX w N R X cv cs op y (w7.setCell ⟨X, 1, none⟩ (.int .i64 y)) := cx7.set 1 _ rfl
        have c1 : w7.cell? ⟨X, 1, none⟩ = some (.int .i64 yf) := cx7.x.cell 1 _ rfl
        have f1 : w7.frozen? ⟨X, 1, none⟩ = false := cx7.x.frozen 1
        have st := store_one f1 c1 (v := y)
        generalize w7.setCell ⟨X, 1, none⟩ (.int .i64 y) = w8 at st cx8
        clear c1 f1 cx7
        have b0 : w8.cell? ⟨X, 0, none⟩ = some (.int .i64 op) := cx8.x.cell 0 _ rfl
        have b1 : w8.cell? ⟨X, 1, none⟩ = some (.int .i64 y) := cx8.x.cell 1 _ rfl
        obtain ⟨w9, hrun, k9, hg9, _⟩ := cx8.r.store 25 #[.int .i64 op, .int .i64 y] rfl (by kernel_rfl) (by kernel_rfl)
        have a0 : w9.cell? ⟨R, 0, none⟩ = some (.int .i64 op) := k9.cell 0 _ rfl
        have a1 : w9.cell? ⟨R, 1, none⟩ = some (.int .i64 y) := k9.cell 1 _ rfl
        have F : Hid (w.grownBy w9 (some N) ∧ Dw N cv cs w9) := cx8.fin hg9
        clear k9 hg9 cx8
        go_wp2_with (first | (refine store_q st rfl _ _ rfl rfl rfl rfl ?_) | (refine store_q hrun rfl _ _ rfl rfl rfl rfl ?_))
        exact bodyPost_ret (v := .agg #[.int .i64 op, .int .i64 y]) (by simp [results, Tryd.results29, go_sem, a0, a1]) rfl ⟨⟨op, y, rfl⟩, F.out⟩
      · clear c0 c1 f1
        have b0 : w11.cell? ⟨X, 0, none⟩ = some (.int .i64 op) := cx4.x.cell 0 _ rfl
        have b1 : w11.cell? ⟨X, 1, none⟩ = some (.int .i64 yf) := cx4.x.cell 1 _ rfl
        obtain ⟨w9, hrun, k9, hg9, _⟩ := cx4.r.store 25 #[.int .i64 op, .int .i64 yf] rfl (by kernel_rfl) (by kernel_rfl)
        have a0 : w9.cell? ⟨R, 0, none⟩ = some (.int .i64 op) := k9.cell 0 _ rfl
        have a1 : w9.cell? ⟨R, 1, none⟩ = some (.int .i64 yf) := k9.cell 1 _ rfl
        have F : Hid (w.grownBy w9 (some N) ∧ Dw N cv cs w9) := cx4.fin hg9
        clear k9 hg9 cx4
        go_wp2_with (refine store_q hrun rfl _ _ rfl rfl rfl rfl ?_)
        exact bodyPost_ret (v := .agg #[.int .i64 op, .int .i64 yf]) (by simp [results, Tryd.results29, go_sem, a0, a1]) rfl ⟨⟨op, yf, rfl⟩, F.out⟩
    · have cx5 := cx4.alloc (.cells #[.int .i64 lo, .int .i64 hi] 2)
      have kl := Bk.new w11 #[.int .i64 lo, .int .i64 hi] 2
      have hL : N < w11.heap.size := cx4.nlt
      go_wp2_with fail
      refine (cx5.d.below 2 (by omega) (by omega)).mono ?_
      rintro e w12 ⟨⟨u, rfl, u0, u1⟩, g12, d12⟩
      have cx6 := cx5.call g12 d12
      obtain ⟨un, rfl⟩ := Int.eq_ofNat_of_zero_le u0
      obtain ⟨m, hm⟩ := lit_at #[.int .i64 lo, .int .i64 hi] rfl un (by simp; omega)
      have cl : w12.cell? ⟨w11.heap.size, un, none⟩ = some (.int .i64 m) := (kl.off g12 (fun e => by have e2 := Option.some.inj e; omega)).cell un _ hm
      have u2 : (un : Int) < 2 := by omega
      clear kl g12 d12 cx5 hm cx4
      have c1 : w12.cell? ⟨X, 1, none⟩ = some (.int .i64 yf) := cx6.x.cell 1 _ rfl
      have f1 : w12.frozen? ⟨X, 1, none⟩ = false := cx6.x.frozen 1
      have st := store_one f1 c1 (v := m)
      have cxm : CX w N R X cv cs op m (w12.setCell ⟨X, 1, none⟩ (.int .i64 m)) := cx6.set 1 _ rfl
      generalize w12.setCell ⟨X, 1, none⟩ (.int .i64 m) = w13 at st cxm
      clear c1 f1 cx6
      have c0 : w13.cell? ⟨X, 0, none⟩ = some (.int .i64 op) := cxm.x.cell 0 _ rfl
      have c1 : w13.cell? ⟨X, 1, none⟩ = some (.int .i64 m) := cxm.x.cell 1 _ rfl
      have f1 : w13.frozen? ⟨X, 1, none⟩ = false := cxm.x.frozen 1
      rcases TS with h5 | ⟨h5, h6⟩ | ⟨h5, h6, h2⟩ | ⟨h5, h6, h2, h3⟩ | ⟨h5, h6, h2, h3⟩
      · go_wp2_with (refine store_q st rfl _ _ rfl rfl rfl rfl ?_)
        refine (cxm.d.below 4 (by omega) (by omega)).mono ?_
        rintro x w7 ⟨⟨y, rfl, y0, y1⟩, g7, d7⟩
        have cxk := cxm.call g7 d7
        clear g7 d7 cxm c0 c1 f1
        have cxn : CX w N R X cv cs op y (w7.setCell ⟨X, 1, none⟩ (.int .i64 y)) := cxk.set 1 _ rfl
        have c1 : w7.cell? ⟨X, 1, none⟩ = some (.int .i64 m) := cxk.x.cell 1 _ rfl
        have f1 : w7.frozen? ⟨X, 1, none⟩ = false := cxk.x.frozen 1
        have st := store_one f1 c1 (v := y)
        generalize w7.setCell ⟨X, 1, none⟩ (.int .i64 y) = w8 at st cxn
        clear c1 f1 cxk
        have b0 : w8.cell? ⟨X, 0, none⟩ = some (.int .i64 op) := cxn.x.cell 0 _ rfl
        have b1 : w8.cell? ⟨X, 1, none⟩ = some (.int .i64 y) := cxn.x.cell 1 _ rfl
        obtain ⟨w9, hrun, k9, hg9, _⟩ := cxn.r.store 25 #[.int .i64 op, .int .i64 y] rfl (by kernel_rfl) (by kernel_rfl)
        have a0 : w9.cell? ⟨R, 0, none⟩ = some (.int .i64 op) := k9.cell 0 _ rfl
        have a1 : w9.cell? ⟨R, 1, none⟩ = some (.int .i64 y) := k9.cell 1 _ rfl
        have F : Hid (w.grownBy w9 (some N) ∧ Dw N cv cs w9) := cxn.fin hg9
        clear k9 hg9 cxn
        go_wp2_with (first | (refine store_q st rfl _ _ rfl rfl rfl rfl ?_) | (refine store_q hrun rfl _ _ rfl rfl rfl rfl ?_))
        exact bodyPost_ret (v := .agg #[.int .i64 op, .int .i64 y]) (by simp [results, Tryd.results29, go_sem, a0, a1]) rfl ⟨⟨op, y, rfl⟩, F.out⟩
      · go_wp2_with (refine store_q st rfl _ _ rfl rfl rfl rfl ?_)
        refine (cxm.d.below 4 (by omega) (by omega)).mono ?_
        rintro x w7 ⟨⟨y, rfl, y0, y1⟩, g7, d7⟩
        have cxk := cxm.call g7 d7
        clear g7 d7 cxm c0 c1 f1
        have cxn : CX w N R X cv cs op y (w7.setCell ⟨X, 1, none⟩ (.int .i64 y)) := cxk.set 1 _ rfl
        have c1 : w7.cell? ⟨X, 1, none⟩ = some (.int .i64 m) := cxk.x.cell 1 _ rfl
        have f1 : w7.frozen? ⟨X, 1, none⟩ = false := cxk.x.frozen 1
        have st := store_one f1 c1 (v := y)
        generalize w7.setCell ⟨X, 1, none⟩ (.int .i64 y) = w8 at st cxn
        clear c1 f1 cxk
        have b0 : w8.cell? ⟨X, 0, none⟩ = some (.int .i64 op) := cxn.x.cell 0 _ rfl
        have b1 : w8.cell? ⟨X, 1, none⟩ = some (.int .i64 y) := cxn.x.cell 1 _ rfl
        obtain ⟨w9, hrun, k9, hg9, _⟩ := cxn.r.store 25 #[.int .i64 op, .int .i64 y] rfl (by kernel_rfl) (by kernel_rfl)
        have a0 : w9.cell? ⟨R, 0, none⟩ = some (.int .i64 op) := k9.cell 0 _ rfl
        have a1 : w9.cell? ⟨R, 1, none⟩ = some (.int .i64 y) := k9.cell 1 _ rfl
        have F : Hid (w.grownBy w9 (some N) ∧ Dw N cv cs w9) := cxn.fin hg9
        clear k9 hg9 cxn
        go_wp2_with (first | (refine store_q st rfl _ _ rfl rfl rfl rfl ?_) | (refine store_q hrun rfl _ _ rfl rfl rfl rfl ?_))
        exact bodyPost_ret (v := .agg #[.int .i64 op, .int .i64 y]) (by simp [results, Tryd.results29, go_sem, a0, a1]) rfl ⟨⟨op, y, rfl⟩, F.out⟩
      · go_wp2_with (refine store_q st rfl _ _ rfl rfl rfl rfl ?_)
        refine (cxm.d.below 4 (by omega) (by omega)).mono ?_
        rintro x w7 ⟨⟨y, rfl, y0, y1⟩, g7, d7⟩
        have cxk := cxm.call g7 d7
        clear g7 d7 cxm c0 c1 f1
        have cxn : CX w N R X cv cs op y (w7.setCell ⟨X, 1, none⟩ (.int .i64 y)) := cxk.set 1 _ rfl
        have c1 : w7.cell? ⟨X, 1, none⟩ = some (.int .i64 m) := cxk.x.cell 1 _ rfl
        have f1 : w7.frozen? ⟨X, 1, none⟩ = false := cxk.x.frozen 1
        have st := store_one f1 c1 (v := y)
        generalize w7.setCell ⟨X, 1, none⟩ (.int .i64 y) = w8 at st cxn
        clear c1 f1 cxk
        have b0 : w8.cell? ⟨X, 0, none⟩ = some (.int .i64 op) := cxn.x.cell 0 _ rfl
        have b1 : w8.cell? ⟨X, 1, none⟩ = some (.int .i64 y) := cxn.x.cell 1 _ rfl
        obtain ⟨w9, hrun, k9, hg9, _⟩ := cxn.r.store 25 #[.int .i64 op, .int .i64 y] rfl (by kernel_rfl) (by kernel_rfl)
        have a0 : w9.cell? ⟨R, 0, none⟩ = some (.int .i64 op) := k9.cell 0 _ rfl
        have a1 : w9.cell? ⟨R, 1, none⟩ = some (.int .i64 y) := k9.cell 1 _ rfl
        have F : Hid (w.grownBy w9 (some N) ∧ Dw N cv cs w9) := cxn.fin hg9
        clear k9 hg9 cxn
        go_wp2_with (first | (refine store_q st rfl _ _ rfl rfl rfl rfl ?_) | (refine store_q hrun rfl _ _ rfl rfl rfl rfl ?_))
        exact bodyPost_ret (v := .agg #[.int .i64 op, .int .i64 y]) (by simp [results, Tryd.results29, go_sem, a0, a1]) rfl ⟨⟨op, y, rfl⟩, F.out⟩
      · go_wp2_with (refine store_q st rfl _ _ rfl rfl rfl rfl ?_)
        refine (cxm.d.below 4 (by omega) (by omega)).mono ?_
        rintro x w7 ⟨⟨y, rfl, y0, y1⟩, g7, d7⟩
        have cxk := cxm.call g7 d7
        clear g7 d7 cxm c0 c1 f1
        have cxn : CX w N R X cv cs op y (w7.setCell ⟨X, 1, none⟩ (.int .i64 y)) := cxk.set 1 _ rfl
        have c1 : w7.cell? ⟨X, 1, none⟩ = some (.int .i64 m) := cxk.x.cell 1 _ rfl
        have f1 : w7.frozen? ⟨X, 1, none⟩ = false := cxk.x.frozen 1
        have st := store_one f1 c1 (v := y)
        generalize w7.setCell ⟨X, 1, none⟩ (.int .i64 y) = w8 at st cxn
        clear c1 f1 cxk
        have b0 : w8.cell? ⟨X, 0, none⟩ = some (.int .i64 op) := cxn.x.cell 0 _ rfl
        have b1 : w8.cell? ⟨X, 1, none⟩ = some (.int .i64 y) := cxn.x.cell 1 _ rfl
        obtain ⟨w9, hrun, k9, hg9, _⟩ := cxn.r.store 25 #[.int .i64 op, .int .i64 y] rfl (by kernel_rfl) (by kernel_rfl)
        have a0 : w9.cell? ⟨R, 0, none⟩ = some (.int .i64 op) := k9.cell 0 _ rfl
        have a1 : w9.cell? ⟨R, 1, none⟩ = some (.int .i64 y) := k9.cell 1 _ rfl
        have F : Hid (w.grownBy w9 (some N) ∧ Dw N cv cs w9) := cxn.fin hg9
        clear k9 hg9 cxn
        go_wp2_with (first | (refine store_q st rfl _ _ rfl rfl rfl rfl ?_) | (refine store_q hrun rfl _ _ rfl rfl rfl rfl ?_))
        exact bodyPost_ret (v := .agg #[.int .i64 op, .int .i64 y]) (by simp [results, Tryd.results29, go_sem, a0, a1]) rfl ⟨⟨op, y, rfl⟩, F.out⟩
      · clear c0 c1 f1
        have b0 : w13.cell? ⟨X, 0, none⟩ = some (.int .i64 op) := cxm.x.cell 0 _ rfl
        have b1 : w13.cell? ⟨X, 1, none⟩ = some (.int .i64 m) := cxm.x.cell 1 _ rfl
        obtain ⟨w9, hrun, k9, hg9, _⟩ := cxm.r.store 25 #[.int .i64 op, .int .i64 m] rfl (by kernel_rfl) (by kernel_rfl)
        have a0 : w9.cell? ⟨R, 0, none⟩ = some (.int .i64 op) := k9.cell 0 _ rfl
        have a1 : w9.cell? ⟨R, 1, none⟩ = some (.int .i64 m) := k9.cell 1 _ rfl
        have F : Hid (w.grownBy w9 (some N) ∧ Dw N cv cs w9) := cxm.fin hg9
        clear k9 hg9 cxm
        go_wp2_with (first | (refine store_q st rfl _ _ rfl rfl rfl rfl ?_) | refine store_q hrun rfl _ _ rfl rfl rfl rfl ?_)
        exact bodyPost_ret (v := .agg #[.int .i64 op, .int .i64 m]) (by simp [results, Tryd.results29, go_sem, a0, a1]) rfl ⟨⟨op, m, rfl⟩, F.out⟩

end Go.Proofs.YtimkdjolipnahaaDoor
