import Derived.Test.YtgacacbncefeaaaGreatZHDraw
import Derived.Test.YtgacacbncefeaaaGreatZQBox
import Derived.Test.YtgacacbncefeaaaGreatZKCode
import Derived.Deep.MidRow
import Derived.Deep.Onto
/- A Code that is drawn: l12Draw, DrawCodeOk and DrawShowCode of the model. -/
namespace Go.Proofs.YtgacacbncefeaaaGreat
open Go.RowKit

theorem Bk.set {w : World} {b : Nat} {C : Array Value} {t : TypeId} (h : Bk w b C t) (j : Nat) (v : Value) : Bk (w.setCell ⟨b, j, none⟩ v) b (C.setIfInBounds j v) t := by
  unfold Bk at *
  simp [World.setCell, Array.getElem?_modify, h]
theorem Bk.setOff {w : World} {b b' : Nat} {C : Array Value} {t : TypeId} (h : Bk w b C t) (hne : b ≠ b') (j : Nat) (v : Value) : Bk (w.setCell ⟨b', j, none⟩ v) b C t := (Below.heap_setCell w ⟨b', j, none⟩ v b hne).trans h
section
variable {ops : Array Oper} {rest : List Oper} {o : Oper} {a : Act} {Q : Exit → Act → World → Prop}
theorem store_q {w w' : World} {t : TypeId} {A u : Value} (hrun : (Instr.storeAt t A u).run Tryz.prog w = .ok () w') (hg : o.guard = none) (p s : Operand) (hop : o.op = Op.store t p s) (hp : a.eval p = A) (hs : a.eval s = u) (hd : o.dst = none)
    (h : wpList Tryz.prog ops Q rest a w') : wpList Tryz.prog ops Q (o :: rest) a w := by
  refine wpList_plain hg fun K hK => ?_
  unfold Oper.wp
  simp [execOp, hop, hp, hs, hrun, Result.andThen]
  refine hK _ _ ?_
  rw [hd]
  exact h
end

theorem store_one {w : World} {b j : Nat} {v : Int} {u : Value} (hf : w.frozen? ⟨b, j, none⟩ = false) (hc : w.cell? ⟨b, j, none⟩ = some u) : (Instr.storeAt 2 (.pointer (some ⟨b, j, none⟩)) (.int .i64 v)).run Tryz.prog w = .ok () (w.setCell ⟨b, j, none⟩ (.int .i64 v)) := by
  go_simp

theorem bnd_facts (op : Int) : (bndL op = -1000000000 ∨ bndL op = 0) ∧ 0 ≤ bndH op ∧ bndH op ≤ 1000000000 := by
  unfold bndL bndH
  refine ⟨by split <;> simp, ?_⟩
  repeat' split
  all_goals omega
theorem qMax_any (a b : Int) (w : World) :
    Calls Tryz.prog 89 #[.int .i64 a, .int .i64 b] w fun e w' => (∃ z : Int, e = .returned (.int .i64 z) ∧ a ≤ z ∧ b ≤ z ∧ (z = a ∨ z = b)) ∧ w' = w := by
  by_cases h : b < a
  · have d : decide (b < a) = true := decide_eq_true h
    go_enter Tryz.func89, Tryz.ntmps89
    go_wp2
    go_ret
    exact ⟨⟨a, rfl, Int.le_refl _, by omega, .inl rfl⟩, rfl⟩
  · have d : decide (b < a) = false := decide_eq_false h
    go_enter Tryz.func89, Tryz.ntmps89
    go_wp2
    go_ret
    exact ⟨⟨b, rfl, by omega, Int.le_refl _, .inr rfl⟩, rfl⟩
theorem qMin_any (a b : Int) (w : World) :
    Calls Tryz.prog 90 #[.int .i64 a, .int .i64 b] w fun e w' => (∃ z : Int, e = .returned (.int .i64 z) ∧ z ≤ a ∧ z ≤ b ∧ (z = a ∨ z = b)) ∧ w' = w := by
  by_cases h : a < b
  · have d : decide (a < b) = true := decide_eq_true h
    go_enter Tryz.func90, Tryz.ntmps90
    go_wp2
    go_ret
    exact ⟨⟨a, rfl, Int.le_refl _, by omega, .inl rfl⟩, rfl⟩
  · have d : decide (a < b) = false := decide_eq_false h
    go_enter Tryz.func90, Tryz.ntmps90
    go_wp2
    go_ret
    exact ⟨⟨b, rfl, by omega, Int.le_refl _, .inr rfl⟩, rfl⟩

/-- A number of a list that is written out. -/
def isIQ : Value → Bool
  | .int .i64 _ => true
  | _ => false
theorem lit_at (C : Array Value) (hC : C.toList.all isIQ = true) (z : Nat) (hz : z < C.size) : ∃ m : Int, C[z]? = some (.int .i64 m) := by
  have h1 : isIQ C[z] = true := List.all_eq_true.1 hC _ (by simp)
  rw [Array.getElem?_eq_getElem hz]
  unfold isIQ at h1
  split at h1
  · rename_i m e
    exact ⟨m, by rw [e]⟩
  · cases h1

/-- A Code that is being drawn: the answer's box R, the Code's own box X, the code's block N. -/
structure CX (w0 : World) (N R X : Nat) (cv : Value) (cs : List UInt8) (op n : Int) (w : World) : Prop where
  g : w0.grownBy w (some N)
  d : Dw N cv cs w
  d0 : Dw N cv cs w0
  hN : N < w0.heap.size
  r : Bk w R #[.int .i64 0, .int .i64 0] 59
  x : Bk w X #[.int .i64 op, .int .i64 n] 59
  hR : w0.heap.size ≤ R
  hX : w0.heap.size ≤ X
  ne : R ≠ X
section
variable {w0 w : World} {N R X : Nat} {cv : Value} {cs : List UInt8} {op n : Int}
theorem CX.call {w' : World} (h : CX w0 N R X cv cs op n w) (g : w.grownBy w' (some N)) (d : Dw N cv cs w') : CX w0 N R X cv cs op n w' :=
  ⟨gtrans h.g g, d, h.d0, h.hN, h.r.off g (fun e => by have e2 := Option.some.inj e; have := h.hR; have := h.hN; omega), h.x.off g (fun e => by have e2 := Option.some.inj e; have := h.hX; have := h.hN; omega), h.hR, h.hX, h.ne⟩
theorem CX.nlt (h : CX w0 N R X cv cs op n w) : N < w.heap.size := Nat.lt_of_lt_of_le h.hN h.g.size
theorem CX.alloc (h : CX w0 N R X cv cs op n w) (o : Obj) : CX w0 N R X cv cs op n (w.alloc o) := h.call (galloc _ _ _) (h.d.grown (galloc _ _ _) h.d (galloc _ _ none) (by simp) h.nlt)
theorem CX.set (h : CX w0 N R X cv cs op n w) (j : Nat) (v : Value) {op' n' : Int} (e : (#[.int .i64 op, .int .i64 n] : Array Value).setIfInBounds j v = #[.int .i64 op', .int .i64 n']) : CX w0 N R X cv cs op' n' (w.setCell ⟨X, j, none⟩ v) := by
  have g1 : w.grownBy (w.setCell ⟨X, j, none⟩ v) (some X) := gset1 _ _ _ _
  have g2 : w0.grownBy (w.setCell ⟨X, j, none⟩ v) (some N) := gmix h.g g1 (fun k hk => by cases hk; exact h.hX)
  refine ⟨g2, h.d0.grown g2 h.d g1 (fun e => ?_) h.nlt, h.d0, h.hN, h.r.setOff h.ne j v, ?_, h.hR, h.hX, h.ne⟩
  · have e2 := Option.some.inj e
    have := h.hX
    have := h.hN
    omega
  · have := h.x.set j v
    rw [e] at this
    exact this
theorem CX.fin {w' : World} (h : CX w0 N R X cv cs op n w) (g : w.grownBy w' (some R)) : w0.grownBy w' (some N) ∧ Dw N cv cs w' := by
  have g2 : w0.grownBy w' (some N) := gmix h.g g (fun k hk => by cases hk; exact h.hR)
  exact ⟨g2, h.d0.grown g2 h.d g (fun e => by have e2 := Option.some.inj e; have := h.hR; have := h.hN; omega) h.nlt⟩
end

set_option maxRecDepth 100000 in
set_option maxHeartbeats 3200000 in
theorem Dw.code {N : Nat} {cv : Value} {cs : List UInt8} {w : World} (h : Dw N cv cs w) (hN : N < w.heap.size) :
    Calls Tryz.prog 58 #[.pointer (some ⟨N, 0, none⟩)] w fun x w' => (∃ a b : Int, x = .returned (codeV a b)) ∧ w.grownBy w' (some N) ∧ Dw N cv cs w' := by
  have LB := l12Bounds_any
  have D0 := h.grown (galloc w (.cells #[.int .i64 0, .int .i64 0] 59) _) h (galloc _ _ none) (by simp) hN
  have r0 := Bk.new w #[.int .i64 0, .int .i64 0] 59
  go_enter Tryz.func58, Tryz.ntmps58
  go_wp2_with fail
  refine (D0.below 20 (by omega) (by omega)).mono ?_
  rintro x w1 ⟨⟨z, rfl, z0, z1⟩, g1, d1⟩
  have sz1 := g1.size
  rw [World.size_alloc] at sz1
  have cx1 : CX w N w.heap.size w1.heap.size cv cs (1 + z) 0 (w1.alloc (.cells #[.int .i64 (1 + z), .int .i64 0] 59)) := by
    have gg : w.grownBy (w1.alloc (.cells #[.int .i64 (1 + z), .int .i64 0] 59)) (some N) := gtrans (gtrans (galloc _ _ _) g1) (galloc _ _ _)
    refine ⟨gg, h.grown gg d1 (galloc _ _ none) (by simp) (by omega), h, hN, (r0.off g1 (fun e => ?_)).alloc _, Bk.new _ _ _, Nat.le_refl _, by omega, by omega⟩
    have e2 := Option.some.inj e
    omega
  clear g1 d1 sz1 r0 D0
  have LB2 := fun w => LB (1 + z) w
  have BF := bnd_facts (1 + z)
  generalize bndL (1 + z) = lo at LB2 BF
  generalize bndH (1 + z) = hi at LB2 BF
  generalize hasN (1 + z) = hs at LB2
  clear LB
  obtain ⟨bf0, bf1, bf2⟩ := BF
  go_wp2_with fail
  refine (LB2 _).mono ?_
  rintro e w3 ⟨rfl, hw3⟩
  rw [← hw3] at cx1
  clear hw3 LB2 z0 z1
  generalize 1 + z = op at cx1
  generalize w1.heap.size = X at cx1 ⊢
  generalize w.heap.size = R at cx1 ⊢
  have TS : (op == 5) = true ∨ ((op == 5) = false ∧ (op == 6) = true) ∨ ((op == 5) = false ∧ (op == 6) = false ∧ (op == 2) = true) ∨ ((op == 5) = false ∧ (op == 6) = false ∧ (op == 2) = false ∧ (op == 3) = true) ∨ ((op == 5) = false ∧ (op == 6) = false ∧ (op == 2) = false ∧ (op == 3) = false) := by
    cases (op == 5) <;> cases (op == 6) <;> cases (op == 2) <;> cases (op == 3) <;> simp
  cases hs
  · clear TS
    have b0 : w3.cell? ⟨X, 0, none⟩ = some (.int .i64 op) := cx1.x.cell 0 _ rfl
    have b1 : w3.cell? ⟨X, 1, none⟩ = some (.int .i64 0) := cx1.x.cell 1 _ rfl
    obtain ⟨w9, hrun, k9, hg9, _⟩ := cx1.r.store 59 #[.int .i64 op, .int .i64 0] rfl (by kernel_rfl) (by kernel_rfl)
    have a0 : w9.cell? ⟨R, 0, none⟩ = some (.int .i64 op) := k9.cell 0 _ rfl
    have a1 : w9.cell? ⟨R, 1, none⟩ = some (.int .i64 0) := k9.cell 1 _ rfl
    have F : Hid (w.grownBy w9 (some N) ∧ Dw N cv cs w9) := cx1.fin hg9
    clear k9 hg9 cx1
    go_wp2_with (refine store_q hrun rfl _ _ rfl rfl rfl rfl ?_)
    exact bodyPost_ret (v := .agg #[.int .i64 op, .int .i64 0]) (by simp [results, Tryz.results58, go_sem, a0, a1]) rfl ⟨⟨op, 0, rfl⟩, F.out⟩
  · go_wp2_with fail
    refine (qMax_any _ _ _).mono ?_
    rintro e w4 ⟨⟨lo', rfl, m0, m1, m2⟩, rfl⟩
    go_wp2_with fail
    refine (qMin_any _ _ _).mono ?_
    rintro e w5 ⟨⟨hi', rfl, n0, n1, n2⟩, rfl⟩
    go_wp2_with fail
    refine (cx1.d.fromI lo' hi' (by omega) (by omega) (by omega) (by omega)).mono ?_
    rintro e w6 ⟨⟨yf, rfl, y0, y1⟩, g6, d6⟩
    have cx2 := cx1.call g6 d6
    clear g6 d6 cx1 m0 m1 m2 n0 n1 n2 y0 y1
    have c1 : w6.cell? ⟨X, 1, none⟩ = some (.int .i64 0) := cx2.x.cell 1 _ rfl
    have f1 : w6.frozen? ⟨X, 1, none⟩ = false := cx2.x.frozen 1
    have st := store_one f1 c1 (v := yf)
    have cx3 : CX w N R X cv cs op yf (w6.setCell ⟨X, 1, none⟩ (.int .i64 yf)) := cx2.set 1 _ rfl
    generalize w6.setCell ⟨X, 1, none⟩ (.int .i64 yf) = w10 at st cx3
    clear c1 f1 cx2
    go_wp2_with (refine store_q st rfl _ _ rfl rfl rfl rfl ?_)
    refine (cx3.d.once 8 (by omega) (by omega)).mono ?_
    rintro e w11 ⟨⟨b, rfl⟩, g11, d11⟩
    have cx4 := cx3.call g11 d11
    clear g11 d11 cx3 st
    cases b
    · have c0 : w11.cell? ⟨X, 0, none⟩ = some (.int .i64 op) := cx4.x.cell 0 _ rfl
      have c1 : w11.cell? ⟨X, 1, none⟩ = some (.int .i64 yf) := cx4.x.cell 1 _ rfl
      have f1 : w11.frozen? ⟨X, 1, none⟩ = false := cx4.x.frozen 1
      rcases TS with h5 | ⟨h5, h6⟩ | ⟨h5, h6, h2⟩ | ⟨h5, h6, h2, h3⟩ | ⟨h5, h6, h2, h3⟩
      · go_wp2_with fail
        refine (cx4.d.below 4 (by omega) (by omega)).mono ?_
        rintro x w7 ⟨⟨y, rfl, y0, y1⟩, g7, d7⟩
        have cx7 := cx4.call g7 d7
        clear g7 d7 cx4 c0 c1 f1
        have cx8 : CX w N R X cv cs op y (w7.setCell ⟨X, 1, none⟩ (.int .i64 y)) := cx7.set 1 _ rfl
        have c1 : w7.cell? ⟨X, 1, none⟩ = some (.int .i64 yf) := cx7.x.cell 1 _ rfl
        have f1 : w7.frozen? ⟨X, 1, none⟩ = false := cx7.x.frozen 1
        have st := store_one f1 c1 (v := y)
        generalize w7.setCell ⟨X, 1, none⟩ (.int .i64 y) = w8 at st cx8
        clear c1 f1 cx7
        have b0 : w8.cell? ⟨X, 0, none⟩ = some (.int .i64 op) := cx8.x.cell 0 _ rfl
        have b1 : w8.cell? ⟨X, 1, none⟩ = some (.int .i64 y) := cx8.x.cell 1 _ rfl
        obtain ⟨w9, hrun, k9, hg9, _⟩ := cx8.r.store 59 #[.int .i64 op, .int .i64 y] rfl (by kernel_rfl) (by kernel_rfl)
        have a0 : w9.cell? ⟨R, 0, none⟩ = some (.int .i64 op) := k9.cell 0 _ rfl
        have a1 : w9.cell? ⟨R, 1, none⟩ = some (.int .i64 y) := k9.cell 1 _ rfl
        have F : Hid (w.grownBy w9 (some N) ∧ Dw N cv cs w9) := cx8.fin hg9
        clear k9 hg9 cx8
        go_wp2_with (first | (refine store_q st rfl _ _ rfl rfl rfl rfl ?_) | (refine store_q hrun rfl _ _ rfl rfl rfl rfl ?_))
        exact bodyPost_ret (v := .agg #[.int .i64 op, .int .i64 y]) (by simp [results, Tryz.results58, go_sem, a0, a1]) rfl ⟨⟨op, y, rfl⟩, F.out⟩
      · go_wp2_with fail
        refine (cx4.d.below 4 (by omega) (by omega)).mono ?_
        rintro x w7 ⟨⟨y, rfl, y0, y1⟩, g7, d7⟩
        have cx7 := cx4.call g7 d7
        clear g7 d7 cx4 c0 c1 f1
        have cx8 : CX w N R X cv cs op y (w7.setCell ⟨X, 1, none⟩ (.int .i64 y)) := cx7.set 1 _ rfl
        have c1 : w7.cell? ⟨X, 1, none⟩ = some (.int .i64 yf) := cx7.x.cell 1 _ rfl
        have f1 : w7.frozen? ⟨X, 1, none⟩ = false := cx7.x.frozen 1
        have st := store_one f1 c1 (v := y)
        generalize w7.setCell ⟨X, 1, none⟩ (.int .i64 y) = w8 at st cx8
        clear c1 f1 cx7
        have b0 : w8.cell? ⟨X, 0, none⟩ = some (.int .i64 op) := cx8.x.cell 0 _ rfl
        have b1 : w8.cell? ⟨X, 1, none⟩ = some (.int .i64 y) := cx8.x.cell 1 _ rfl
        obtain ⟨w9, hrun, k9, hg9, _⟩ := cx8.r.store 59 #[.int .i64 op, .int .i64 y] rfl (by kernel_rfl) (by kernel_rfl)
        have a0 : w9.cell? ⟨R, 0, none⟩ = some (.int .i64 op) := k9.cell 0 _ rfl
        have a1 : w9.cell? ⟨R, 1, none⟩ = some (.int .i64 y) := k9.cell 1 _ rfl
        have F : Hid (w.grownBy w9 (some N) ∧ Dw N cv cs w9) := cx8.fin hg9
        clear k9 hg9 cx8
        go_wp2_with (first | (refine store_q st rfl _ _ rfl rfl rfl rfl ?_) | (refine store_q hrun rfl _ _ rfl rfl rfl rfl ?_))
        exact bodyPost_ret (v := .agg #[.int .i64 op, .int .i64 y]) (by simp [results, Tryz.results58, go_sem, a0, a1]) rfl ⟨⟨op, y, rfl⟩, F.out⟩
      · go_wp2_with fail
        refine (cx4.d.below 4 (by omega) (by omega)).mono ?_
        rintro x w7 ⟨⟨y, rfl, y0, y1⟩, g7, d7⟩
        have cx7 := cx4.call g7 d7
        clear g7 d7 cx4 c0 c1 f1
        have cx8 : CX w N R X cv cs op y (w7.setCell ⟨X, 1, none⟩ (.int .i64 y)) := cx7.set 1 _ rfl
        have c1 : w7.cell? ⟨X, 1, none⟩ = some (.int .i64 yf) := cx7.x.cell 1 _ rfl
        have f1 : w7.frozen? ⟨X, 1, none⟩ = false := cx7.x.frozen 1
        have st := store_one f1 c1 (v := y)
        generalize w7.setCell ⟨X, 1, none⟩ (.int .i64 y) = w8 at st cx8
        clear c1 f1 cx7
        have b0 : w8.cell? ⟨X, 0, none⟩ = some (.int .i64 op) := cx8.x.cell 0 _ rfl
        have b1 : w8.cell? ⟨X, 1, none⟩ = some (.int .i64 y) := cx8.x.cell 1 _ rfl
        obtain ⟨w9, hrun, k9, hg9, _⟩ := cx8.r.store 59 #[.int .i64 op, .int .i64 y] rfl (by kernel_rfl) (by kernel_rfl)
        have a0 : w9.cell? ⟨R, 0, none⟩ = some (.int .i64 op) := k9.cell 0 _ rfl
        have a1 : w9.cell? ⟨R, 1, none⟩ = some (.int .i64 y) := k9.cell 1 _ rfl
        have F : Hid (w.grownBy w9 (some N) ∧ Dw N cv cs w9) := cx8.fin hg9
        clear k9 hg9 cx8
        go_wp2_with (first | (refine store_q st rfl _ _ rfl rfl rfl rfl ?_) | (refine store_q hrun rfl _ _ rfl rfl rfl rfl ?_))
        exact bodyPost_ret (v := .agg #[.int .i64 op, .int .i64 y]) (by simp [results, Tryz.results58, go_sem, a0, a1]) rfl ⟨⟨op, y, rfl⟩, F.out⟩
      · go_wp2_with fail
        refine (cx4.d.below 4 (by omega) (by omega)).mono ?_
        rintro x w7 ⟨⟨y, rfl, y0, y1⟩, g7, d7⟩
        have cx7 := cx4.call g7 d7
        clear g7 d7 cx4 c0 c1 f1
        have cx8 : CX w N R X cv cs op y (w7.setCell ⟨X, 1, none⟩ (.int .i64 y)) := cx7.set 1 _ rfl
        have c1 : w7.cell? ⟨X, 1, none⟩ = some (.int .i64 yf) := cx7.x.cell 1 _ rfl
        have f1 : w7.frozen? ⟨X, 1, none⟩ = false := cx7.x.frozen 1
        have st := store_one f1 c1 (v := y)
        generalize w7.setCell ⟨X, 1, none⟩ (.int .i64 y) = w8 at st cx8
        clear c1 f1 cx7
        have b0 : w8.cell? ⟨X, 0, none⟩ = some (.int .i64 op) := cx8.x.cell 0 _ rfl
        have b1 : w8.cell? ⟨X, 1, none⟩ = some (.int .i64 y) := cx8.x.cell 1 _ rfl
        obtain ⟨w9, hrun, k9, hg9, _⟩ := cx8.r.store 59 #[.int .i64 op, .int .i64 y] rfl (by kernel_rfl) (by kernel_rfl)
        have a0 : w9.cell? ⟨R, 0, none⟩ = some (.int .i64 op) := k9.cell 0 _ rfl
        have a1 : w9.cell? ⟨R, 1, none⟩ = some (.int .i64 y) := k9.cell 1 _ rfl
        have F : Hid (w.grownBy w9 (some N) ∧ Dw N cv cs w9) := cx8.fin hg9
        clear k9 hg9 cx8
        go_wp2_with (first | (refine store_q st rfl _ _ rfl rfl rfl rfl ?_) | (refine store_q hrun rfl _ _ rfl rfl rfl rfl ?_))
        exact bodyPost_ret (v := .agg #[.int .i64 op, .int .i64 y]) (by simp [results, Tryz.results58, go_sem, a0, a1]) rfl ⟨⟨op, y, rfl⟩, F.out⟩
      · clear c0 c1 f1
        have b0 : w11.cell? ⟨X, 0, none⟩ = some (.int .i64 op) := cx4.x.cell 0 _ rfl
        have b1 : w11.cell? ⟨X, 1, none⟩ = some (.int .i64 yf) := cx4.x.cell 1 _ rfl
        obtain ⟨w9, hrun, k9, hg9, _⟩ := cx4.r.store 59 #[.int .i64 op, .int .i64 yf] rfl (by kernel_rfl) (by kernel_rfl)
        have a0 : w9.cell? ⟨R, 0, none⟩ = some (.int .i64 op) := k9.cell 0 _ rfl
        have a1 : w9.cell? ⟨R, 1, none⟩ = some (.int .i64 yf) := k9.cell 1 _ rfl
        have F : Hid (w.grownBy w9 (some N) ∧ Dw N cv cs w9) := cx4.fin hg9
        clear k9 hg9 cx4
        go_wp2_with (refine store_q hrun rfl _ _ rfl rfl rfl rfl ?_)
        exact bodyPost_ret (v := .agg #[.int .i64 op, .int .i64 yf]) (by simp [results, Tryz.results58, go_sem, a0, a1]) rfl ⟨⟨op, yf, rfl⟩, F.out⟩
    · have cx5 := cx4.alloc (.cells #[.int .i64 lo, .int .i64 hi] 2)
      have kl := Bk.new w11 #[.int .i64 lo, .int .i64 hi] 2
      have hL : N < w11.heap.size := cx4.nlt
      go_wp2_with fail
      refine (cx5.d.below 2 (by omega) (by omega)).mono ?_
      rintro e w12 ⟨⟨u, rfl, u0, u1⟩, g12, d12⟩
      have cx6 := cx5.call g12 d12
      obtain ⟨un, rfl⟩ := Int.eq_ofNat_of_zero_le u0
      obtain ⟨m, hm⟩ := lit_at #[.int .i64 lo, .int .i64 hi] rfl un (by simp; omega)
      have cl : w12.cell? ⟨w11.heap.size, un, none⟩ = some (.int .i64 m) := (kl.off g12 (fun e => by have e2 := Option.some.inj e; omega)).cell un _ hm
      have u2 : (un : Int) < 2 := by omega
      clear kl g12 d12 cx5 hm cx4
      have c1 : w12.cell? ⟨X, 1, none⟩ = some (.int .i64 yf) := cx6.x.cell 1 _ rfl
      have f1 : w12.frozen? ⟨X, 1, none⟩ = false := cx6.x.frozen 1
      have st := store_one f1 c1 (v := m)
      have cxm : CX w N R X cv cs op m (w12.setCell ⟨X, 1, none⟩ (.int .i64 m)) := cx6.set 1 _ rfl
      generalize w12.setCell ⟨X, 1, none⟩ (.int .i64 m) = w13 at st cxm
      clear c1 f1 cx6
      have c0 : w13.cell? ⟨X, 0, none⟩ = some (.int .i64 op) := cxm.x.cell 0 _ rfl
      have c1 : w13.cell? ⟨X, 1, none⟩ = some (.int .i64 m) := cxm.x.cell 1 _ rfl
      have f1 : w13.frozen? ⟨X, 1, none⟩ = false := cxm.x.frozen 1
      rcases TS with h5 | ⟨h5, h6⟩ | ⟨h5, h6, h2⟩ | ⟨h5, h6, h2, h3⟩ | ⟨h5, h6, h2, h3⟩
      · go_wp2_with (refine store_q st rfl _ _ rfl rfl rfl rfl ?_)
        refine (cxm.d.below 4 (by omega) (by omega)).mono ?_
        rintro x w7 ⟨⟨y, rfl, y0, y1⟩, g7, d7⟩
        have cxk := cxm.call g7 d7
        clear g7 d7 cxm c0 c1 f1
        have cxn : CX w N R X cv cs op y (w7.setCell ⟨X, 1, none⟩ (.int .i64 y)) := cxk.set 1 _ rfl
        have c1 : w7.cell? ⟨X, 1, none⟩ = some (.int .i64 m) := cxk.x.cell 1 _ rfl
        have f1 : w7.frozen? ⟨X, 1, none⟩ = false := cxk.x.frozen 1
        have st := store_one f1 c1 (v := y)
        generalize w7.setCell ⟨X, 1, none⟩ (.int .i64 y) = w8 at st cxn
        clear c1 f1 cxk
        have b0 : w8.cell? ⟨X, 0, none⟩ = some (.int .i64 op) := cxn.x.cell 0 _ rfl
        have b1 : w8.cell? ⟨X, 1, none⟩ = some (.int .i64 y) := cxn.x.cell 1 _ rfl
        obtain ⟨w9, hrun, k9, hg9, _⟩ := cxn.r.store 59 #[.int .i64 op, .int .i64 y] rfl (by kernel_rfl) (by kernel_rfl)
        have a0 : w9.cell? ⟨R, 0, none⟩ = some (.int .i64 op) := k9.cell 0 _ rfl
        have a1 : w9.cell? ⟨R, 1, none⟩ = some (.int .i64 y) := k9.cell 1 _ rfl
        have F : Hid (w.grownBy w9 (some N) ∧ Dw N cv cs w9) := cxn.fin hg9
        clear k9 hg9 cxn
        go_wp2_with (first | (refine store_q st rfl _ _ rfl rfl rfl rfl ?_) | (refine store_q hrun rfl _ _ rfl rfl rfl rfl ?_))
        exact bodyPost_ret (v := .agg #[.int .i64 op, .int .i64 y]) (by simp [results, Tryz.results58, go_sem, a0, a1]) rfl ⟨⟨op, y, rfl⟩, F.out⟩
      · go_wp2_with (refine store_q st rfl _ _ rfl rfl rfl rfl ?_)
        refine (cxm.d.below 4 (by omega) (by omega)).mono ?_
        rintro x w7 ⟨⟨y, rfl, y0, y1⟩, g7, d7⟩
        have cxk := cxm.call g7 d7
        clear g7 d7 cxm c0 c1 f1
        have cxn : CX w N R X cv cs op y (w7.setCell ⟨X, 1, none⟩ (.int .i64 y)) := cxk.set 1 _ rfl
        have c1 : w7.cell? ⟨X, 1, none⟩ = some (.int .i64 m) := cxk.x.cell 1 _ rfl
        have f1 : w7.frozen? ⟨X, 1, none⟩ = false := cxk.x.frozen 1
        have st := store_one f1 c1 (v := y)
        generalize w7.setCell ⟨X, 1, none⟩ (.int .i64 y) = w8 at st cxn
        clear c1 f1 cxk
        have b0 : w8.cell? ⟨X, 0, none⟩ = some (.int .i64 op) := cxn.x.cell 0 _ rfl
        have b1 : w8.cell? ⟨X, 1, none⟩ = some (.int .i64 y) := cxn.x.cell 1 _ rfl
        obtain ⟨w9, hrun, k9, hg9, _⟩ := cxn.r.store 59 #[.int .i64 op, .int .i64 y] rfl (by kernel_rfl) (by kernel_rfl)
        have a0 : w9.cell? ⟨R, 0, none⟩ = some (.int .i64 op) := k9.cell 0 _ rfl
        have a1 : w9.cell? ⟨R, 1, none⟩ = some (.int .i64 y) := k9.cell 1 _ rfl
        have F : Hid (w.grownBy w9 (some N) ∧ Dw N cv cs w9) := cxn.fin hg9
        clear k9 hg9 cxn
        go_wp2_with (first | (refine store_q st rfl _ _ rfl rfl rfl rfl ?_) | (refine store_q hrun rfl _ _ rfl rfl rfl rfl ?_))
        exact bodyPost_ret (v := .agg #[.int .i64 op, .int .i64 y]) (by simp [results, Tryz.results58, go_sem, a0, a1]) rfl ⟨⟨op, y, rfl⟩, F.out⟩
      · go_wp2_with (refine store_q st rfl _ _ rfl rfl rfl rfl ?_)
        refine (cxm.d.below 4 (by omega) (by omega)).mono ?_
        rintro x w7 ⟨⟨y, rfl, y0, y1⟩, g7, d7⟩
        have cxk := cxm.call g7 d7
        clear g7 d7 cxm c0 c1 f1
        have cxn : CX w N R X cv cs op y (w7.setCell ⟨X, 1, none⟩ (.int .i64 y)) := cxk.set 1 _ rfl
        have c1 : w7.cell? ⟨X, 1, none⟩ = some (.int .i64 m) := cxk.x.cell 1 _ rfl
        have f1 : w7.frozen? ⟨X, 1, none⟩ = false := cxk.x.frozen 1
        have st := store_one f1 c1 (v := y)
        generalize w7.setCell ⟨X, 1, none⟩ (.int .i64 y) = w8 at st cxn
        clear c1 f1 cxk
        have b0 : w8.cell? ⟨X, 0, none⟩ = some (.int .i64 op) := cxn.x.cell 0 _ rfl
        have b1 : w8.cell? ⟨X, 1, none⟩ = some (.int .i64 y) := cxn.x.cell 1 _ rfl
        obtain ⟨w9, hrun, k9, hg9, _⟩ := cxn.r.store 59 #[.int .i64 op, .int .i64 y] rfl (by kernel_rfl) (by kernel_rfl)
        have a0 : w9.cell? ⟨R, 0, none⟩ = some (.int .i64 op) := k9.cell 0 _ rfl
        have a1 : w9.cell? ⟨R, 1, none⟩ = some (.int .i64 y) := k9.cell 1 _ rfl
        have F : Hid (w.grownBy w9 (some N) ∧ Dw N cv cs w9) := cxn.fin hg9
        clear k9 hg9 cxn
        go_wp2_with (first | (refine store_q st rfl _ _ rfl rfl rfl rfl ?_) | (refine store_q hrun rfl _ _ rfl rfl rfl rfl ?_))
        exact bodyPost_ret (v := .agg #[.int .i64 op, .int .i64 y]) (by simp [results, Tryz.results58, go_sem, a0, a1]) rfl ⟨⟨op, y, rfl⟩, F.out⟩
      · go_wp2_with (refine store_q st rfl _ _ rfl rfl rfl rfl ?_)
        refine (cxm.d.below 4 (by omega) (by omega)).mono ?_
        rintro x w7 ⟨⟨y, rfl, y0, y1⟩, g7, d7⟩
        have cxk := cxm.call g7 d7
        clear g7 d7 cxm c0 c1 f1
        have cxn : CX w N R X cv cs op y (w7.setCell ⟨X, 1, none⟩ (.int .i64 y)) := cxk.set 1 _ rfl
        have c1 : w7.cell? ⟨X, 1, none⟩ = some (.int .i64 m) := cxk.x.cell 1 _ rfl
        have f1 : w7.frozen? ⟨X, 1, none⟩ = false := cxk.x.frozen 1
        have st := store_one f1 c1 (v := y)
        generalize w7.setCell ⟨X, 1, none⟩ (.int .i64 y) = w8 at st cxn
        clear c1 f1 cxk
        have b0 : w8.cell? ⟨X, 0, none⟩ = some (.int .i64 op) := cxn.x.cell 0 _ rfl
        have b1 : w8.cell? ⟨X, 1, none⟩ = some (.int .i64 y) := cxn.x.cell 1 _ rfl
        obtain ⟨w9, hrun, k9, hg9, _⟩ := cxn.r.store 59 #[.int .i64 op, .int .i64 y] rfl (by kernel_rfl) (by kernel_rfl)
        have a0 : w9.cell? ⟨R, 0, none⟩ = some (.int .i64 op) := k9.cell 0 _ rfl
        have a1 : w9.cell? ⟨R, 1, none⟩ = some (.int .i64 y) := k9.cell 1 _ rfl
        have F : Hid (w.grownBy w9 (some N) ∧ Dw N cv cs w9) := cxn.fin hg9
        clear k9 hg9 cxn
        go_wp2_with (first | (refine store_q st rfl _ _ rfl rfl rfl rfl ?_) | (refine store_q hrun rfl _ _ rfl rfl rfl rfl ?_))
        exact bodyPost_ret (v := .agg #[.int .i64 op, .int .i64 y]) (by simp [results, Tryz.results58, go_sem, a0, a1]) rfl ⟨⟨op, y, rfl⟩, F.out⟩
      · clear c0 c1 f1
        have b0 : w13.cell? ⟨X, 0, none⟩ = some (.int .i64 op) := cxm.x.cell 0 _ rfl
        have b1 : w13.cell? ⟨X, 1, none⟩ = some (.int .i64 m) := cxm.x.cell 1 _ rfl
        obtain ⟨w9, hrun, k9, hg9, _⟩ := cxm.r.store 59 #[.int .i64 op, .int .i64 m] rfl (by kernel_rfl) (by kernel_rfl)
        have a0 : w9.cell? ⟨R, 0, none⟩ = some (.int .i64 op) := k9.cell 0 _ rfl
        have a1 : w9.cell? ⟨R, 1, none⟩ = some (.int .i64 m) := k9.cell 1 _ rfl
        have F : Hid (w.grownBy w9 (some N) ∧ Dw N cv cs w9) := cxm.fin hg9
        clear k9 hg9 cxm
        go_wp2_with (first | (refine store_q st rfl _ _ rfl rfl rfl rfl ?_) | refine store_q hrun rfl _ _ rfl rfl rfl rfl ?_)
        exact bodyPost_ret (v := .agg #[.int .i64 op, .int .i64 m]) (by simp [results, Tryz.results58, go_sem, a0, a1]) rfl ⟨⟨op, m, rfl⟩, F.out⟩

end Go.Proofs.YtgacacbncefeaaaGreat

/- A program that is drawn: l13DrawProgram of the model. -/
namespace Go.Proofs.YtgacacbncefeaaaGreat
open Go.RowKit

/-- The cells of a list of Codes. -/
def ccl (l : List Cd) : List Value := l.flatMap fun c => [.int .i64 c.1, .int .i64 c.2]
theorem ccl_length (l : List Cd) : (ccl l).length = l.length * 2 := by
  induction l with
  | nil => rfl
  | cons c l ih =>
    have e : ccl (c :: l) = .int .i64 c.1 :: .int .i64 c.2 :: ccl l := rfl
    rw [e]
    simp [ih]
    omega
theorem ccl_app (l m : List Cd) : ccl (l ++ m) = ccl l ++ ccl m := by simp [ccl]
theorem ccl_one (l : List Cd) : ∀ u ∈ ccl l, u.oneCell' = true := by
  intro u hu
  obtain ⟨c, _, h⟩ := List.mem_flatMap.1 hu
  simp only [List.mem_cons, List.not_mem_nil, or_false] at h
  rcases h with rfl | rfl <;> rfl
/-- A program that is being drawn: the row v, its Codes l. -/
structure PX (w0 : World) (N : Nat) (cv : Value) (cs : List UInt8) (v : Value) (l : List Cd) (w : World) : Prop where
  g : w0.grownBy w (some N)
  d : Dw N cv cs w
  d0 : Dw N cv cs w0
  hN : N < w0.heap.size
  own : w.ownsRow w0.heap.size 59 2 v l.length (ccl l)
section
variable {w0 w : World} {N : Nat} {cv v : Value} {cs : List UInt8} {l : List Cd}
theorem PX.nlt (h : PX w0 N cv cs v l w) : N < w.heap.size := Nat.lt_of_lt_of_le h.hN h.g.size
theorem own_offC {w w' : World} {B e size n N : Nat} {v : Value} {xs : List Value} (h : w.ownsRow B e size v n xs) (hg : w.grownBy w' (some N)) (hN : N < B) : w'.ownsRow B e size v n xs :=
  h.kept hg (by
    cases hv : v.ownBlock with
    | none => exact .inl rfl
    | some k => exact .inr (fun e => by have := (h.lt k hv).1; have e2 := Option.some.inj e; omega))
theorem PX.call {w' : World} (h : PX w0 N cv cs v l w) (g : w.grownBy w' (some N)) (d : Dw N cv cs w') : PX w0 N cv cs v l w' := ⟨gtrans h.g g, d, h.d0, h.hN, own_offC h.own g h.hN⟩
/-- Another row of the function's own in its place. -/
theorem PX.row {w' : World} {v' : Value} {l' : List Cd} {row : Option Nat} (h : PX w0 N cv cs v l w) (g : w.grownBy w' row) (hr : ∀ k, row = some k → w0.heap.size ≤ k) (b : w'.ownsRow w0.heap.size 59 2 v' l'.length (ccl l')) : PX w0 N cv cs v' l' w' := by
  have g2 : w0.grownBy w' (some N) := gmix h.g g hr
  exact ⟨g2, h.d0.grown g2 h.d g (fun e => by have := hr N e.symm; have := h.hN; omega) h.nlt, h.d0, h.hN, b⟩
theorem PX.len (h : PX w0 N cv cs v l w) : ∃ ao cap, v = .slice ao l.length cap := by
  rcases h.own.2 with ⟨rfl, e⟩ | ⟨g, cap, cur, rfl, _⟩
  · exact ⟨_, _, by rw [e]⟩
  · exact ⟨_, _, rfl⟩
end
/-- append of a list of Codes that is written out. -/
theorem app_cd {ops : Array Oper} {rest : List Oper} {o : Oper} {a : Act} {Q : Exit → Act → World → Prop} {w0 w : World} {N : Nat} {cv v : Value} {cs : List UInt8} {l : List Cd}
    (h : PX w0 N cv cs v l w) (m : List Cd) (n : Nat) (hn : n = m.length) (C : Array Value) (hC : C.toList = ccl m) (hgd : o.guard = none) (s x : Operand)
    (ho : o.op = .call { callee := .builtin .append, args := #[s, x], argTypes := #[24, 24] })
    (hs : a.eval s = v) (hx : a.eval x = .slice (some ⟨w.heap.size, 0, none⟩) n n) (hl : l.length + m.length ≤ 1000000)
    (k : ∀ v' w', PX w0 N cv cs v' (l ++ m) w' → wpList Tryz.prog ops Q rest (a.put o.dst v') w') :
    wpList Tryz.prog ops Q (o :: rest) a (w.alloc (.cells C 59)) := by
  obtain ⟨i, hi, hzz⟩ := Option.map_eq_some_iff.1 Tryz.infoCK
  simp only [Prod.mk.injEq] at hzz
  obtain ⟨hz, hsz, hby⟩ := hzz
  subst hn
  have g1 := galloc w (.cells C 59) (some N)
  have d1 := h.d0.grown (gtrans h.g g1) h.d (galloc w (.cells C 59) none) (by simp) h.nlt
  have h1 := h.call g1 d1
  have sz := h.g.size
  have hb : w0.heap.size ≤ (w.alloc (.cells C 59)).heap.size := by rw [World.size_alloc]; omega
  refine wpList_append_own_at _ hgd s x 24 ho w0.heap.size 59 i _ 2 16 Tryz.underCK hi hz hsz hby rfl (by omega) v l.length (ccl l) hs h1.own ⟨w.heap.size, 0, none⟩ m.length m.length (ccl m) hx (ccl_length m) (fun j u hj => ?_) (ccl_one m) (by unfold maxLen; omega) (by omega) hb (fun v' w' q1 q2 _ q4 => ?_)
  · have ad : (⟨w.heap.size, 0, none⟩ : Addr).add j = ⟨w.heap.size, j, none⟩ := by
      unfold Addr.add
      split
      · subst j; rfl
      · simp
    rw [ad]
    have r := Bk.new w C 59
    refine r.cell j u ?_
    rw [← hC] at hj
    rw [← Array.getElem?_toList]
    exact hj
  · rw [← List.length_append, ← ccl_app] at q1
    refine k v' w' (h1.row q2 (fun b hb2 => ?_) q1)
    have := h1.own.lt b hb2
    omega

set_option maxRecDepth 100000 in
set_option maxHeartbeats 6400000 in
theorem drawProg_any {N : Nat} {cv : Value} {cs : List UInt8} {w : World} (h : Dw N cv cs w) (hN : N < w.heap.size) :
    Calls Tryz.prog 30 #[.pointer (some ⟨N, 0, none⟩)] w fun x w' => ∃ v l, x = .returned v ∧ l.length ≤ 100 ∧ PX w N cv cs v l w' := by
  have o0 : (w.alloc (.cells #[] 59)).ownsRow w.heap.size 59 2 (.slice (some ⟨w.heap.size, 0, none⟩) 0 0) ([] : List Cd).length (ccl []) :=
    ⟨by simp [ccl], .inr ⟨w.heap.size, 0, #[], rfl, Nat.le_refl _, heap_alloc_new w _, Nat.le_refl _, by unfold maxLen; omega, by simp, by simp [ccl]⟩⟩
  have P0 : PX w N cv cs (.slice (some ⟨w.heap.size, 0, none⟩) 0 0) [] (w.alloc (.cells #[] 59)) :=
    ⟨galloc _ _ _, h.grown (galloc _ _ _) h (galloc _ _ none) (by simp) hN, h, hN, o0⟩
  clear o0
  go_enter Tryz.func30, Tryz.ntmps30
  go_wp2_with fail
  refine (P0.d.below 16 (by omega) (by omega)).mono ?_
  rintro x w1 ⟨⟨z, rfl, z0, z1⟩, g1, d1⟩
  have P1 := P0.call g1 d1
  clear P0 g1 d1
  obtain ⟨zn, rfl⟩ := Int.eq_ofNat_of_zero_le z0
  go_wp2
  go_loopw [3, 4] (fun ov nv wr => ∃ (j : Nat) (l : List Cd), nv = .int .i64 j ∧ l.length + 4 * j ≤ 64 ∧ PX w N cv cs ov l wr) (fun _ nv _ => (intOf nv).toNat)
  case atStart => exact ⟨zn, [], rfl, by simp; omega, P1⟩
  case round =>
    clear P1
    obtain ⟨j, l, rfl, hj, P⟩ := hrel
    obtain ⟨ao, cp, rfl⟩ := P.len
    by_cases hj0 : 0 < j
    · have e0 : decide ((0 : Int) < (j : Int)) = true := by simp; omega
      go_wp2_with fail
      refine (P.d.below 20 (by omega) (by omega)).mono ?_
      rintro x w2 ⟨⟨y, rfl, y0, y1⟩, g2, d2⟩
      have P2 := P.call g2 d2
      clear P g2 d2
      have P2b := P2.call (galloc _ (.cells #[.int .i64 (l.length : Int), .int .i64 y] 2) _) (P2.d0.grown (gtrans P2.g (galloc _ (.cells #[.int .i64 (l.length : Int), .int .i64 y] 2) _)) P2.d (galloc _ _ none) (by simp) P2.nlt)
      have B2 := Bk.new w2 #[.int .i64 (l.length : Int), .int .i64 y] 2
      have n2 := P2.nlt
      clear P2
      go_wp2_with fail
      refine (P2b.d.below 2 (by omega) (by omega)).mono ?_
      rintro x w3 ⟨⟨u, rfl, u0, u1⟩, g3, d3⟩
      have P3 := P2b.call g3 d3
      have B3 := B2.off g3 (fun e => by have e2 := Option.some.inj e; omega)
      clear P2b B2 g3 d3 n2
      have kx : ∃ kv, w3.cell? ⟨w2.heap.size, u.toNat, none⟩ = some (.int .i64 kv) := by
        obtain rfl | rfl : u = 0 ∨ u = 1 := by omega
        · exact ⟨_, B3.cell 0 _ rfl⟩
        · exact ⟨_, B3.cell 1 _ rfl⟩
      obtain ⟨kv, kc⟩ := kx
      clear B3
      obtain ⟨un, rfl⟩ := Int.eq_ofNat_of_zero_le u0
      have kc : w3.cell? ⟨w2.heap.size, un, none⟩ = some (.int .i64 kv) := kc
      have un2 : un < 2 := by omega
      go_wp2_with fail
      refine (P3.d.below 9 (by omega) (by omega)).mono ?_
      rintro x w4 ⟨⟨s, rfl, s0, s1⟩, g4, d4⟩
      have P4 := P3.call g4 d4
      clear P3 g4 d4 kc
      obtain rfl | rfl | rfl | rfl | rfl | rfl | rfl | rfl | rfl : s = 0 ∨ s = 1 ∨ s = 2 ∨ s = 3 ∨ s = 4 ∨ s = 5 ∨ s = 6 ∨ s = 7 ∨ s = 8 := by omega
      · go_wp2_with fail
        refine (P4.d.below 5 (by omega) (by omega)).mono ?_
        rintro x v1 ⟨⟨s1, rfl, p1, q1⟩, gg, dd⟩
        have P4a := P4.call gg dd
        clear gg dd P4
        go_wp2_with fail
        refine (P4a.d.below 4 (by omega) (by omega)).mono ?_
        rintro x v2 ⟨⟨s2, rfl, p2, q2⟩, gg, dd⟩
        have P4b := P4a.call gg dd
        clear gg dd P4a
        go_wp2_with (at_builtin; refine app_cd P4b [(4, 1 + s1), (3, s2)] 2 rfl _ rfl rfl _ _ rfl rfl rfl (by simp; omega) ?_; intro v9 w9 P9)
        replace P9 : Hid _ := P9
        go_wp2
        exact ⟨⟨j - 1, _, by go_num, by simp; omega, P9.out⟩, by simp [intOf]; omega⟩
      · go_wp2_with fail
        refine (P4.d.below 4 (by omega) (by omega)).mono ?_
        rintro x v1 ⟨⟨s1, rfl, p1, q1⟩, gg, dd⟩
        have P4a := P4.call gg dd
        clear gg dd P4
        go_wp2_with (at_builtin; refine app_cd P4a [(2, s1), (15, 0), (14, 0)] 3 rfl _ rfl rfl _ _ rfl rfl rfl (by simp; omega) ?_; intro v9 w9 P9)
        replace P9 : Hid _ := P9
        go_wp2
        exact ⟨⟨j - 1, _, by go_num, by simp; omega, P9.out⟩, by simp [intOf]; omega⟩
      · go_wp2_with fail
        refine (P4.d.below 4 (by omega) (by omega)).mono ?_
        rintro x v1 ⟨⟨s1, rfl, p1, q1⟩, gg, dd⟩
        have P4a := P4.call gg dd
        clear gg dd P4
        go_wp2_with fail
        refine (P4a.d.below 4 (by omega) (by omega)).mono ?_
        rintro x v2 ⟨⟨s2, rfl, p2, q2⟩, gg, dd⟩
        have P4b := P4a.call gg dd
        clear gg dd P4a
        go_wp2_with (at_builtin; refine app_cd P4b [(2, s1), (2, s2), (6, 0)] 3 rfl _ rfl rfl _ _ rfl rfl rfl (by simp; omega) ?_; intro v9 w9 P9)
        replace P9 : Hid _ := P9
        go_wp2
        exact ⟨⟨j - 1, _, by go_num, by simp; omega, P9.out⟩, by simp [intOf]; omega⟩
      · go_wp2_with fail
        refine (P4.d.fromI (-9) 9 (by omega) (by omega) (by omega) (by omega)).mono ?_
        rintro x v1 ⟨⟨s1, rfl, f0, f1⟩, gg, dd⟩
        have P4a := P4.call gg dd
        clear gg dd P4
        go_wp2_with fail
        refine (P4a.d.below 9 (by omega) (by omega)).mono ?_
        rintro x v2 ⟨⟨s2, rfl, p2, q2⟩, gg, dd⟩
        have P4b := P4a.call gg dd
        clear gg dd P4a
        go_wp2_with fail
        refine (P4b.d.below 3 (by omega) (by omega)).mono ?_
        rintro x v3 ⟨⟨s3, rfl, p3, q3⟩, gg, dd⟩
        have P4c := P4b.call gg dd
        clear gg dd P4b
        go_wp2_with (at_builtin; refine app_cd P4c [(1, s1), (1, s2), (7 + s3, 0), (14, 0)] 4 rfl _ rfl rfl _ _ rfl rfl rfl (by simp; omega) ?_; intro v9 w9 P9)
        replace P9 : Hid _ := P9
        go_wp2
        exact ⟨⟨j - 1, _, by go_num, by simp; omega, P9.out⟩, by simp [intOf]; omega⟩
      · go_wp2_with fail
        refine (P4.d.below 4 (by omega) (by omega)).mono ?_
        rintro x v1 ⟨⟨s1, rfl, p1, q1⟩, gg, dd⟩
        have P4a := P4.call gg dd
        clear gg dd P4
        go_wp2_with fail
        refine (P4a.d.below 4 (by omega) (by omega)).mono ?_
        rintro x v2 ⟨⟨s2, rfl, p2, q2⟩, gg, dd⟩
        have P4b := P4a.call gg dd
        clear gg dd P4a
        go_wp2_with (at_builtin; refine app_cd P4b [(2, s1), (2, s2), (18, 0)] 3 rfl _ rfl rfl _ _ rfl rfl rfl (by simp; omega) ?_; intro v9 w9 P9)
        replace P9 : Hid _ := P9
        go_wp2
        exact ⟨⟨j - 1, _, by go_num, by simp; omega, P9.out⟩, by simp [intOf]; omega⟩
      · go_wp2_with fail
        refine (P4.d.below 61 (by omega) (by omega)).mono ?_
        rintro x v1 ⟨⟨s1, rfl, p1, q1⟩, gg, dd⟩
        have P4a := P4.call gg dd
        clear gg dd P4
        go_wp2_with (at_builtin; refine app_cd P4a [(4, s1), (13, 0)] 2 rfl _ rfl rfl _ _ rfl rfl rfl (by simp; omega) ?_; intro v9 w9 P9)
        replace P9 : Hid _ := P9
        go_wp2
        exact ⟨⟨j - 1, _, by go_num, by simp; omega, P9.out⟩, by simp [intOf]; omega⟩
      · go_wp2_with fail
        refine (P4.d.below 2 (by omega) (by omega)).mono ?_
        rintro x v1 ⟨⟨s1, rfl, p1, q1⟩, gg, dd⟩
        have P4a := P4.call gg dd
        clear gg dd P4
        go_wp2_with (at_builtin; refine app_cd P4a [(1, s1), (11, kv)] 2 rfl _ rfl rfl _ _ rfl rfl rfl (by simp; omega) ?_; intro v9 w9 P9)
        replace P9 : Hid _ := P9
        go_wp2
        exact ⟨⟨j - 1, _, by go_num, by simp; omega, P9.out⟩, by simp [intOf]; omega⟩
      · go_wp2_with fail
        refine (P4.d.below 4 (by omega) (by omega)).mono ?_
        rintro x v1 ⟨⟨s1, rfl, p1, q1⟩, gg, dd⟩
        have P4a := P4.call gg dd
        clear gg dd P4
        go_wp2_with fail
        refine (P4a.d.below 2 (by omega) (by omega)).mono ?_
        rintro x v2 ⟨⟨s2, rfl, p2, q2⟩, gg, dd⟩
        have P4b := P4a.call gg dd
        clear gg dd P4a
        go_wp2_with fail
        refine (P4b.d.below 4 (by omega) (by omega)).mono ?_
        rintro x v3 ⟨⟨s3, rfl, p3, q3⟩, gg, dd⟩
        have P4c := P4b.call gg dd
        clear gg dd P4b
        go_wp2_with (at_builtin; refine app_cd P4c [(2, s1), (5, s2), (3, s3)] 3 rfl _ rfl rfl _ _ rfl rfl rfl (by simp; omega) ?_; intro v9 w9 P9)
        replace P9 : Hid _ := P9
        go_wp2
        exact ⟨⟨j - 1, _, by go_num, by simp; omega, P9.out⟩, by simp [intOf]; omega⟩
      · go_wp2_with fail
        refine (P4.d.code P4.nlt).mono ?_
        rintro x v1 ⟨⟨ca, cb, rfl⟩, gg, dd⟩
        have P4a := P4.call gg dd
        clear gg dd P4
        unfold codeV
        go_wp2_with (at_builtin; refine app_cd P4a [(ca, cb)] 1 rfl _ rfl rfl _ _ rfl rfl rfl (by simp; omega) ?_; intro v9 w9 P9)
        replace P9 : Hid _ := P9
        go_wp2
        exact ⟨⟨j - 1, _, by go_num, by simp; omega, P9.out⟩, by simp [intOf]; omega⟩
    · have e0 : decide ((0 : Int) < (j : Int)) = false := by simp; omega
      go_wp2_with fail
      refine (P.d.once 3 (by omega) (by omega)).mono ?_
      rintro x w3 ⟨⟨b, rfl⟩, g3, d3⟩
      have P3 := P.call g3 d3
      clear P g3 d3
      cases b
      · replace P3 : Hid _ := P3
        go_wp2
        go_ret
        exact ⟨_, l, rfl, by omega, P3.out⟩
      · go_wp2_with (at_builtin; refine app_cd P3 [(10, 0)] 1 rfl _ rfl rfl _ _ rfl rfl rfl (by simp; omega) ?_; intro v9 w9 P9)
        replace P9 : Hid _ := P9
        go_wp2
        go_ret
        exact ⟨_, _, rfl, by simp; omega, P9.out⟩

end Go.Proofs.YtgacacbncefeaaaGreat

/- A program that is drawn for the laws: DrawNewVm of the model. -/
namespace Go.Proofs.YtgacacbncefeaaaGreat
open Go.RowKit

theorem PX.own_base {w0 w : World} {N B : Nat} {cv v : Value} {cs : List UInt8} {l : List Cd} (h : PX w0 N cv cs v l w) (hB : B ≤ w0.heap.size) : w.ownsRow B 59 2 v l.length (ccl l) := h.own.mono hB

set_option maxRecDepth 100000 in
set_option maxHeartbeats 6400000 in
theorem drawNewVm_any (cv : Value) (cs : List UInt8) (w : World) (hc : BR w cv cs) (hn : cs.length ≤ 4096) :
    Calls Tryz.prog 8 #[cv] w fun x w' => ∃ v l, x = .returned v ∧ l.length ≤ 101 ∧ w'.ownsRow w.heap.size 59 2 v l.length (ccl l) ∧ Below w.heap.size w w' := by
  go_enter Tryz.func8, Tryz.ntmps8
  go_wp2_with fail
  refine (l1New_any cv cs _ hc hn).mono ?_
  rintro x w1 ⟨N, rfl, n0, n1, hb1, d1⟩
  have C1 := drawProg_any d1 n1
  have s1 := hb1.size
  go_wp2_with fail
  refine C1.mono ?_
  rintro x w2 ⟨v, l, rfl, hl, P2⟩
  obtain ⟨ao, cp, rfl⟩ := P2.len
  clear C1
  go_wp2_with fail
  refine (P2.d.once 12 (by omega) (by omega)).mono ?_
  rintro x w3 ⟨⟨b, rfl⟩, g3, d3⟩
  have P3 := P2.call g3 d3
  clear P2 g3 d3
  cases b
  · skip
    go_wp2_with fail
    refine (P3.d.once 40 (by omega) (by omega)).mono ?_
    rintro x w6 ⟨⟨c, rfl⟩, g6, d6⟩
    have P6 := P3.call g6 d6
    clear P3 g6 d6
    cases c
    · replace P6 : Hid _ := P6
      go_wp2
      go_ret
      have q := P6.out.own_base s1
      exact ⟨_, l, rfl, by first | omega | (simp; omega), by first | exact q | (simp only [List.length_append, List.length_cons, List.length_nil] at q ⊢; exact q), gbel hb1 P6.out.g hb1.size n0⟩
    · have P7 : PX w1 N cv cs (.slice (some ⟨w6.heap.size, 0, none⟩) 0 0) [] (w6.alloc (.cells #[] 59)) :=
        P6.row (galloc _ _ none) (fun k e => by cases e) ⟨by simp [ccl], .inr ⟨w6.heap.size, 0, #[], rfl, P6.g.size, heap_alloc_new w6 _, Nat.le_refl _, by unfold maxLen; omega, by simp, by simp [ccl]⟩⟩
      clear P6
      go_wp2_with fail
      refine (P7.d.below 2 (by omega) (by omega)).mono ?_
      rintro x w8 ⟨⟨z, rfl, z0, z1⟩, g8, d8⟩
      have P8 := P7.call g8 d8
      clear P7 g8 d8
      obtain ⟨zn, rfl⟩ := Int.eq_ofNat_of_zero_le z0
      go_wp2
      go_loopw [4, 5] (fun ov nv wr => ∃ (j : Nat) (m : List Cd), nv = .int .i64 j ∧ m.length + j ≤ 101 ∧ PX w1 N cv cs ov m wr) (fun _ nv _ => (intOf nv).toNat)
      case atStart => exact ⟨100 + zn, [], by go_num, by simp; omega, P8⟩
      case round =>
        clear P8
        obtain ⟨j, m, rfl, hj, P⟩ := hrel
        obtain ⟨ao, cp, rfl⟩ := P.len
        by_cases hj0 : 0 < j
        · have e0 : decide ((0 : Int) < (j : Int)) = true := by simp; omega
          go_wp2_with (at_builtin; refine app_cd P [(16, 0)] 1 rfl _ rfl rfl _ _ rfl rfl rfl (by simp; omega) ?_; intro v9 w9 P9)
          replace P9 : Hid _ := P9
          go_wp2
          exact ⟨⟨j - 1, _, by go_num, by simp; omega, P9.out⟩, by simp [intOf]; omega⟩
        · have e0 : decide ((0 : Int) < (j : Int)) = false := by simp; omega
          replace P : Hid _ := P
          go_wp2
          go_ret
          exact ⟨_, m, rfl, by omega, P.out.own_base (by omega), gbel hb1 P.out.g hb1.size n0⟩
  · go_wp2_with fail
    refine (P3.d.fromI 0 22 (by omega) (by omega) (by omega) (by omega)).mono ?_
    rintro x w4 ⟨⟨y, rfl, y0, y1⟩, g4, d4⟩
    have P4 := P3.call g4 d4
    clear P3 g4 d4
    go_wp2_with fail
    refine (P4.d.fromI (-1) 1 (by omega) (by omega) (by omega) (by omega)).mono ?_
    rintro x w5 ⟨⟨u, rfl, u0, u1⟩, g5, d5⟩
    have P5 := P4.call g5 d5
    clear P4 g5 d5
    go_wp2_with (at_builtin; refine app_cd P5 [(y, u)] 1 rfl _ rfl rfl _ _ rfl rfl rfl (by simp; omega) ?_; intro v9 w9 P9)
    obtain ⟨ao9, cp9, rfl⟩ := P9.len
    go_wp2_with fail
    refine (P9.d.once 40 (by omega) (by omega)).mono ?_
    rintro x w6 ⟨⟨c, rfl⟩, g6, d6⟩
    have P6 := P9.call g6 d6
    clear P9 g6 d6
    cases c
    · replace P6 : Hid _ := P6
      go_wp2
      go_ret
      have q := P6.out.own_base s1
      exact ⟨_, (l ++ [(y, u)]), rfl, by first | omega | (simp; omega), by first | exact q | (simp only [List.length_append, List.length_cons, List.length_nil] at q ⊢; exact q), gbel hb1 P6.out.g hb1.size n0⟩
    · have P7 : PX w1 N cv cs (.slice (some ⟨w6.heap.size, 0, none⟩) 0 0) [] (w6.alloc (.cells #[] 59)) :=
        P6.row (galloc _ _ none) (fun k e => by cases e) ⟨by simp [ccl], .inr ⟨w6.heap.size, 0, #[], rfl, P6.g.size, heap_alloc_new w6 _, Nat.le_refl _, by unfold maxLen; omega, by simp, by simp [ccl]⟩⟩
      clear P6
      go_wp2_with fail
      refine (P7.d.below 2 (by omega) (by omega)).mono ?_
      rintro x w8 ⟨⟨z, rfl, z0, z1⟩, g8, d8⟩
      have P8 := P7.call g8 d8
      clear P7 g8 d8
      obtain ⟨zn, rfl⟩ := Int.eq_ofNat_of_zero_le z0
      go_wp2
      go_loopw [4, 5] (fun ov nv wr => ∃ (j : Nat) (m : List Cd), nv = .int .i64 j ∧ m.length + j ≤ 101 ∧ PX w1 N cv cs ov m wr) (fun _ nv _ => (intOf nv).toNat)
      case atStart => exact ⟨100 + zn, [], by go_num, by simp; omega, P8⟩
      case round =>
        clear P8
        obtain ⟨j, m, rfl, hj, P⟩ := hrel
        obtain ⟨ao, cp, rfl⟩ := P.len
        by_cases hj0 : 0 < j
        · have e0 : decide ((0 : Int) < (j : Int)) = true := by simp; omega
          go_wp2_with (at_builtin; refine app_cd P [(16, 0)] 1 rfl _ rfl rfl _ _ rfl rfl rfl (by simp; omega) ?_; intro v9 w9 P9)
          replace P9 : Hid _ := P9
          go_wp2
          exact ⟨⟨j - 1, _, by go_num, by simp; omega, P9.out⟩, by simp [intOf]; omega⟩
        · have e0 : decide ((0 : Int) < (j : Int)) = false := by simp; omega
          replace P : Hid _ := P
          go_wp2
          go_ret
          exact ⟨_, m, rfl, by omega, P.out.own_base (by omega), gbel hb1 P.out.g hb1.size n0⟩

end Go.Proofs.YtgacacbncefeaaaGreat

/- Boxes that are written in part. -/
namespace Go.Proofs.YtgacacbncefeaaaGreat
open Go.RowKit

theorem Bk.part {w : World} {b : Nat} {C : Array Value} {t' : TypeId} (h : Bk w b C t') (t : TypeId) (o : Nat) (cs C' : Array Value) (hn : o + cs.size ≤ C.size) (hi : (Tryz.prog.info? t).map (·.size) = some cs.size) (h1 : cs.all (·.oneCell') = true) (hC : C' = (C.toList.take o ++ cs.toList ++ C.toList.drop (o + cs.size)).toArray) :
    ∃ w', (Instr.storeAt t (.pointer (some ⟨b, o, none⟩)) (.agg cs)).run Tryz.prog w = .ok () w' ∧ Bk w' b C' t' ∧ w.grownBy w' (some b) ∧ w'.heap.size = w.heap.size := by
  subst hC
  refine ⟨w.setRow b (C.toList.take o ++ cs.toList ++ C.toList.drop (o + cs.size)).toArray, ?_, setRow_heap w b C _ t' _ h, ?_, ?_⟩
  · have hst := run_storeCells_at Tryz.prog b o t' cs.toList 0 C w h (by simp; omega) (fun v hv => by
      have q := Array.all_eq_true'.1 h1 v (by simpa using hv)
      exact q)
    have e : (C.toList.take (o + 0) ++ cs.toList ++ C.toList.drop (o + 0 + cs.toList.length)).toArray = (C.toList.take o ++ cs.toList ++ C.toList.drop (o + cs.size)).toArray := by simp
    rw [e] at hst
    obtain ⟨i, hi', hs⟩ := Option.map_eq_some_iff.1 hi
    simp [Instr.storeAt, Instr.sureAddr, storeVar, sizeOf, typeInfo, hi', hs, Value.cells] at hst ⊢
    exact hst
  · refine ⟨rfl, rfl, rfl, ?_, fun i _ hne => ?_⟩
    · simp [World.setRow]
    · simp [World.setRow, Array.getElem?_modify]
      intro e
      exact absurd (by rw [e]) hne
  · simp [World.setRow]
theorem Bk.setc {w : World} {b : Nat} {C : Array Value} {t : TypeId} (h : Bk w b C t) (j : Nat) (v : Value) (C' : Array Value) (hC : C' = C.setIfInBounds j v) : Bk (w.setCell ⟨b, j, none⟩ v) b C' t := by
  subst hC
  unfold Bk
  rw [setCell_eq_setRow w b j C t (0, 0) v h]
  exact setRow_heap w b C _ t _ h
theorem Bk.setOther {w : World} {b g j : Nat} {C : Array Value} {t : TypeId} (h : Bk w b C t) (hb : b ≠ g) (v : Value) : Bk (w.setCell ⟨g, j, none⟩ v) b C t := (Below.heap_setCell _ _ _ _ hb).trans h
theorem wp_storeK {ops : Array Oper} {rest : List Oper} {o : Oper} {a : Act} {Q : Exit → Act → World → Prop} {w w' : World} {t : TypeId} {Av u : Value} (hrun : (Instr.storeAt t Av u).run Tryz.prog w = .ok () w') (hg : o.guard = none) (p s : Operand) (hop : o.op = Op.store t p s) (hp : a.eval p = Av) (hs : a.eval s = u) (hd : o.dst = none)
    (h : wpList Tryz.prog ops Q rest a w') : wpList Tryz.prog ops Q (o :: rest) a w := by
  refine wpList_plain hg fun K hK => ?_
  unfold Oper.wp
  simp [execOp, hop, hp, hs, hrun, Result.andThen]
  refine hK _ _ ?_
  rw [hd]
  exact h

end Go.Proofs.YtgacacbncefeaaaGreat
