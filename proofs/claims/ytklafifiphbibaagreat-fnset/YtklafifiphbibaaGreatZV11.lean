
import Derived.Test.YtklafifiphbibaaGreatZV10
import Derived.Test.YtklafifiphbibaaGreatZCSpec
import Derived.Test.YtklafifiphbibaaGreatZV2
import Derived.Deep.RegionLaw
/- The draw of a word that a heap may have: l4DrawWord and l7DrawWord of the model. -/
namespace Go.Proofs.YtklafifiphbibaaGreat
open Go.RowKit

def isJ : Value → Bool
  | .int .i64 m => decide (-9223372036854775808 ≤ m ∧ m ≤ 9223372036854775807)
  | _ => false
theorem isJ_of {v : Value} (h : isJ v = true) : ∃ m : Int, v = .int .i64 m ∧ In64 m := by
  unfold isJ at h
  split at h
  · have q := of_decide_eq_true h
    exact ⟨_, rfl, q⟩
  · cases h
theorem lit_in {w w' : World} {N : Nat} (C : Array Value) (hC : C.toList.all isJ = true) (g : (w.alloc (.cells C 2)).grownBy w' (some N)) (hN : N < w.heap.size) (z : Nat) (hz : z < C.size) : ∃ m : Int, w'.cell? ⟨w.heap.size, z, none⟩ = some (.int .i64 m) ∧ In64 m := by
  have h1 : isJ C[z] = true := List.all_eq_true.1 hC _ (by simp)
  obtain ⟨m, hm, hi⟩ := isJ_of h1
  refine ⟨m, g.cell ?_ (fun e => by have e2 : w.heap.size = N := Option.some.inj e; omega), hi⟩
  have hh := heap_alloc_new w (.cells C 2)
  simp only [World.cell?, hh]
  rw [Array.getElem?_eq_getElem hz, hm]
  rfl

set_option maxRecDepth 100000 in
set_option maxHeartbeats 1600000 in
theorem Dw.word4 {N : Nat} {cv : Value} {cs : List UInt8} {w : World} (h : Dw N cv cs w) (hN : N < w.heap.size) :
    Calls Tryz.prog 47 #[.pointer (some ⟨N, 0, none⟩)] w fun x w' => (∃ z : Int, x = .returned (.int .i64 z) ∧ In64 z) ∧ Sx w N cv cs w' := by
  have B := h.once 8 (by omega) (by omega)
  go_enter Tryz.func47, Tryz.ntmps47
  go_wp2_with fail
  refine B.mono ?_
  rintro x w1 ⟨⟨b, rfl⟩, g1, d1⟩
  clear B
  have hN1 : N < w1.heap.size := Nat.lt_of_lt_of_le hN g1.size
  cases b
  · have B := d1.fromI (-500) 7000 (by omega) (by omega) (by omega) (by omega)
    go_wp2_with fail
    refine B.mono ?_
    rintro x w2 ⟨⟨z, rfl, z0, z1⟩, g2, d2⟩
    go_wp2
    go_ret
    exact ⟨⟨_, rfl, by unfold In64; omega⟩, gtrans g1 g2, d2⟩
  · go_wp2_with fail
    refine ((d1.grown (galloc _ _ _) d1 (galloc _ _ none) (by simp) hN1).below 11 (by omega) (by omega)).mono ?_
    rintro x w2 ⟨⟨z, rfl, z0, z1⟩, g2, d2⟩
    obtain ⟨zn, rfl⟩ := Int.eq_ofNat_of_zero_le z0
    obtain ⟨m, hm, hi⟩ := lit_in _ (by rfl) g2 hN1 zn (by simp; omega)
    have gw := gtrans g1 (gtrans (galloc _ _ _) g2)
    have z1' : decide ((zn : Int) < 11) = true := by simp; omega
    clear g2
    go_wp2
    go_ret
    exact ⟨⟨_, rfl, hi⟩, gw, d2⟩

/-- As specObjects_c, and where the list lies. -/
theorem specObjects_o (v : Value) (h : Hp) (w : World) (hv : HR w v h) (hro : h.roots.length ≤ 1000000000000) (hke : h.kept.length ≤ 1000000000000) :
    Calls Tryz.prog 45 #[v] w fun x w' => (∃ v', x = .returned v' ∧ IR w' v' (ints (obC h)) ∧ ∀ b, inB v' b → w.heap.size ≤ b) ∧ Below w.heap.size w w' := by
  obtain ⟨v1, v2, v3, rfl, i1, i2, i3⟩ := id hv
  have hb0 := bel_one w (.cells #[v1, v2, .int .i64 h.old, .int .i64 h.eden, .int .i64 h.surv, .bool h.flip, .int .i64 h.hash, v3] 26)
  have X0 := Bx.new w v1 v2 v3 h 26
  have C := specHeapOk_c _ h _ (hv.later hb0) hro hke
  go_enter Tryz.func45, Tryz.ntmps45
  go_wp2_with fail
  refine C.mono ?_
  rintro x w1 ⟨rfl, hb1⟩
  obtain ⟨c0, c1, c2, c3, c4, c5, c6, c7⟩ := X0.later hb1
  have hbw := bel_after hb0 hb1
  cases hk : okC h
  · have e : Hid (obC h = []) := c_wrong hk
    go_wp2
    go_ret
    refine ⟨⟨_, rfl, ?_, fun b q => ?_⟩, bel_after hbw (bel_one _ _)⟩
    · rw [e.out]
      exact ⟨_, _, rfl, Nat.le_refl _, fun i hi => by simp [ints] at hi⟩
    · obtain ⟨o, n, c, e, hn⟩ := q
      injection e with q1 q2 q3
      omega
  · have A := all_own _ h _ (hv.later hbw) hk
    have ws := hbw.size
    go_wp2_with fail
    refine A.mono ?_
    rintro x w2 ⟨⟨v', rfl, ho⟩, hb2⟩
    go_wp2
    go_ret
    exact ⟨⟨v', rfl, IR_of_owns' ho, fun b q => Nat.le_trans ws (own_lowM ho (inB_own ho q))⟩, bel_after hbw hb2⟩
theorem ob_small (h : Hp) {k : Nat} (hk : k < (obC h).length) : (obC h).getD k 0 ≤ 3200 := by
  cases e : okC h
  · rw [c_wrong e] at hk; simp at hk
  · have := ((c_right e).1.obj (lget_mem _ _ hk)).1
    omega

set_option maxRecDepth 100000 in
set_option maxHeartbeats 1600000 in
theorem Dw.word7 {N : Nat} {cv : Value} {cs : List UInt8} {w : World} {t : Hp} {v1 v2 v3 : Value} (h : Dw N cv cs w) (hN : N < w.heap.size) (hv : HR w (.agg #[v1, v2, .int .i64 t.old, .int .i64 t.eden, .int .i64 t.surv, .bool t.flip, .int .i64 t.hash, v3]) t) (hro : t.roots.length ≤ 1000000) (hke : t.kept.length ≤ 1000000) :
    Calls Tryz.prog 22 #[.pointer (some ⟨N, 0, none⟩), .agg #[v1, v2, .int .i64 t.old, .int .i64 t.eden, .int .i64 t.surv, .bool t.flip, .int .i64 t.hash, v3]] w fun x w' => (∃ z : Int, x = .returned (.int .i64 z) ∧ In64 z) ∧ Sx w N cv cs w' := by
  have hb0 := bel_one w (.cells #[v1, v2, .int .i64 t.old, .int .i64 t.eden, .int .i64 t.surv, .bool t.flip, .int .i64 t.hash, v3] 26)
  have X0 := Bx.new w v1 v2 v3 t 26
  have OB := ob_short t
  have O := specObjects_o _ t _ (hv.later hb0) (by omega) (by omega)
  have s0 := (Sx.refl h).more hb0 hN
  have z0 : w.heap.size ≤ (w.alloc (.cells #[v1, v2, .int .i64 t.old, .int .i64 t.eden, .int .i64 t.surv, .bool t.flip, .int .i64 t.hash, v3] 26)).heap.size := hb0.size
  obtain ⟨x0, x1, x2, x3, x4, x5, x6, x7⟩ := id X0
  clear X0 hv hro hke
  go_enter Tryz.func22, Tryz.ntmps22
  go_wp2_with fail
  refine O.mono ?_
  rintro x w1 ⟨⟨lv, rfl, il, lo⟩, hb1⟩
  have s1 := s0.more hb1 hN
  have OM : Hid (∀ k, k < (obC t).length → (obC t).getD k 0 ≤ 3200) := fun k hk => ob_small t hk
  generalize obC t = l at *
  obtain ⟨la, lc, rfl, hcell⟩ := intsI il
  have LC : Hid (∀ k, k < l.length → ∃ b o, la = some ⟨b, o, none⟩ ∧ N < b ∧ w1.cell? ⟨b, o + k, none⟩ = some (.int .i64 ((l.getD k 0 : Nat) : Int))) := fun k hk => by
    obtain ⟨b, o, e, c⟩ := hcell k hk
    have := lo b ⟨o, _, lc, by rw [e], by omega⟩
    exact ⟨b, o, e, by omega, c⟩
  clear x0 x1 x2 x3 x4 x5 x6 x7 O hb0 hb1 s0 lo hcell il
  by_cases hl : 0 < l.length
  · have gl : (0 : Int) < (l.length : Int) := by omega
    go_wp2_with fail
    refine (s1.2.once 5 (by omega) (by omega)).mono ?_
    rintro x w2 ⟨⟨b, rfl⟩, g2, d2⟩
    have s2 := s1.trans ⟨g2, d2⟩
    cases b
    · go_wp2_with fail
      refine (d2.less l.length (by omega) (by omega)).mono ?_
      rintro x w3 ⟨⟨z, rfl, zl, zu⟩, g3, d3⟩
      have s3 := s2.trans ⟨g3, d3⟩
      obtain ⟨k, rfl⟩ := Int.eq_ofNat_of_zero_le zl
      obtain ⟨lb, lo, rfl, hlb, ci⟩ := LC.out k (by omega)
      have ci3 := g3.cell (g2.cell ci (fun e => by have := Option.some.inj e; simp at this; omega)) (fun e => by have := Option.some.inj e; simp at this; omega)
      have la := OM.out k (by omega)
      clear LC OM g2 g3 d2 d3 s1 s2 ci
      generalize l.getD k 0 = a at *
      go_wp2
      go_ret
      exact ⟨⟨_, rfl, by unfold In64; omega⟩, s3⟩
    · clear g2 d2
      go_wp2_with fail
      refine (s2.2.once 2 (by omega) (by omega)).mono ?_
      rintro x w4 ⟨⟨b, rfl⟩, g4, d4⟩
      have s4 := s2.trans ⟨g4, d4⟩
      have hN4 : N < w4.heap.size := Nat.lt_of_lt_of_le hN s4.1.size
      cases b
      · go_wp2_with fail
        refine (d4.word4 hN4).mono ?_
        rintro x w5 ⟨⟨z, rfl, hz⟩, s5⟩
        have s6 := s4.trans s5
        clear s5 d4 g4
        go_wp2
        go_ret
        exact ⟨⟨_, rfl, hz⟩, s6⟩
      · go_wp2_with fail
        refine (d4.fromI (-9) 9 (by omega) (by omega) (by omega) (by omega)).mono ?_
        rintro x w5 ⟨⟨z, rfl, z0, z1⟩, g5, d5⟩
        have s6 := s4.trans ⟨g5, d5⟩
        clear g5 d5 g4 d4
        go_wp2
        go_ret
        exact ⟨⟨_, rfl, by unfold In64; omega⟩, s6⟩
  · have gl : ¬ (0 : Int) < (l.length : Int) := by omega
    go_wp2_with fail
    refine (s1.2.once 2 (by omega) (by omega)).mono ?_
    rintro x w4 ⟨⟨b, rfl⟩, g4, d4⟩
    have s4 := s1.trans ⟨g4, d4⟩
    have hN4 : N < w4.heap.size := Nat.lt_of_lt_of_le hN s4.1.size
    cases b
    · go_wp2_with fail
      refine (d4.word4 hN4).mono ?_
      rintro x w5 ⟨⟨z, rfl, hz⟩, s5⟩
      have s6 := s4.trans s5
      clear s5 d4 g4
      go_wp2
      go_ret
      exact ⟨⟨_, rfl, hz⟩, s6⟩
    · go_wp2_with fail
      refine (d4.fromI (-9) 9 (by omega) (by omega) (by omega) (by omega)).mono ?_
      rintro x w5 ⟨⟨z, rfl, z0, z1⟩, g5, d5⟩
      have s6 := s4.trans ⟨g5, d5⟩
      clear g5 d5 g4 d4
      go_wp2
      go_ret
      exact ⟨⟨_, rfl, by unfold In64; omega⟩, s6⟩

end Go.Proofs.YtklafifiphbibaaGreat

/- The state of the public draws of a heap: the answer's box, the code's block, the heap's box. -/
namespace Go.Proofs.YtklafifiphbibaaGreat
open Go.RowKit

/-- A heap drawn for a law: the answer's box lies at w.heap.size, the code's block is N, the heap's box H, its lists lie from B on. -/
structure AX (w : World) (B N : Nat) (cv : Value) (cs : List UInt8) (H : Nat) (W : World) (t : Hp) (v1 v2 v3 : Value) : Prop where
  dw : Dw N cv cs W
  br0 : BR w cv cs
  bel : Below w.heap.size w W
  row : W.rowIs H 26 8 (fun i => (va8 t v1 v2 v3)[i]?.getD undef)
  ha : HA B W t v1 v2 v3
  res : ∃ f, W.rowIs w.heap.size 26 8 f
  nH : ¬ inB v1 H
  hR : w.heap.size < N
  hN : N < B
  hB : B ≤ H
  sz : t.words.length ≤ 3200 ∧ t.roots.length ≤ 21 ∧ t.kept.length ≤ 3201
theorem AX.lt {w : World} {B N : Nat} {cv : Value} {cs : List UInt8} {H : Nat} {W : World} {t : Hp} {v1 v2 v3 : Value} (k : AX w B N cv cs H W t v1 v2 v3) : N < W.heap.size := by
  have := k.row.lt
  have := k.hN
  have := k.hB
  omega
theorem AX.step {w : World} {B N : Nat} {cv : Value} {cs : List UInt8} {H : Nat} {W W' : World} {t : Hp} {v1 v2 v3 : Value} (k : AX w B N cv cs H W t v1 v2 v3) (s : Sx W N cv cs W') : AX w B N cv cs H W' t v1 v2 v3 := by
  obtain ⟨f, F⟩ := k.res
  have hN := k.hN
  have hB := k.hB
  have hR := k.hR
  have n1 : some H ≠ some N := fun e => by injection e; omega
  have n2 : some w.heap.size ≠ some N := fun e => by injection e; omega
  exact ⟨s.2, k.br0, gbel k.bel s.1 k.bel.size (by omega), k.row.of_block (s.1.block _ k.row.lt n1), k.ha.off s.1 hN, ⟨f, F.of_block (s.1.block _ F.lt n2)⟩, k.nH, hR, hN, hB, k.sz⟩
theorem AX.later {w : World} {B N : Nat} {cv : Value} {cs : List UInt8} {H : Nat} {W W' : World} {t : Hp} {v1 v2 v3 : Value} (k : AX w B N cv cs H W t v1 v2 v3) (hb : Below W.heap.size W W') : AX w B N cv cs H W' t v1 v2 v3 :=
  k.step ((Sx.refl k.dw).more hb k.lt)
/-- The answer is written. -/
theorem AX.done {w : World} {B N : Nat} {cv : Value} {cs : List UInt8} {H : Nat} {W W' : World} {t : Hp} {v1 v2 v3 : Value} (k : AX w B N cv cs H W t v1 v2 v3) (g : W.grownBy W' (some w.heap.size)) : HA w.heap.size W' t v1 v2 v3 ∧ Below w.heap.size w W' := by
  have hN := k.hN
  have hR := k.hR
  have q := k.ha.off g (show w.heap.size < B from by omega)
  exact ⟨⟨q.w1, fun b p => by have := q.b1 b p; omega, own_down q.o2 (by omega), own_down q.o3 (by omega), q.d1, q.d2, q.fw⟩, gbel k.bel g k.bel.size (Nat.le_refl _)⟩
/-- The roots have grown by one. -/
theorem AX.roots {w : World} {B N : Nat} {cv : Value} {cs : List UInt8} {H : Nat} {W W' : World} {t : Hp} {v1 v2 v3 u : Value} {l : List Int} (k : AX w B N cv cs H W t v1 v2 v3) (own : W'.ownsRow B 2 1 u l.length (icells l)) (g : W.grownBy W' v2.ownBlock) (lo : u.ownBlock = v2.ownBlock ∨ u.ownBlock = some W.heap.size) (hl : l.length ≤ 21) :
    W'.rowIs H 26 8 (fun i => (va8 t v1 v2 v3)[i]?.getD undef) ∧ AX w B N cv cs H (W'.setCell ⟨H, 1, none⟩ u) { t with roots := l } v1 u v3 := by
  obtain ⟨f, F⟩ := k.res
  have hN := k.hN
  have hB := k.hB
  have hR := k.hR
  have lw : ∀ b, v2.ownBlock = some b → B ≤ b := fun b e => own_lowM k.ha.o2 e
  have ne : ∀ b m f, W.rowIs b 26 m f → some b ≠ v2.ownBlock := fun b m f h e => own_apart k.ha.o2 (by decide) h e.symm
  have row := k.row.of_block (g.block _ k.row.lt (ne _ _ _ k.row))
  have res := F.of_block (g.block _ F.lt (ne _ _ _ F))
  have i1 : IR W' v1 t.words := (Grew.grown g).ir k.ha.w1 (fun b q e => (k.ha.d1 b q).1 e)
  have wN : Sx W N cv cs W := Sx.refl k.dw
  have d2 : ∀ b, u.ownBlock = some b → v3.ownBlock ≠ some b := fun b e q => by
    rcases lo with h | h
    · exact k.ha.d2 b (by rw [← h]; exact e) q
    · rw [h] at e
      have := (k.ha.o3.lt b q).2
      injection e
      omega
  have d1 : ∀ b, inB v1 b → u.ownBlock ≠ some b ∧ v3.ownBlock ≠ some b := fun b q => ⟨fun e => by
    rcases lo with h | h
    · exact (k.ha.d1 b q).1 (by rw [← h]; exact e)
    · rw [h] at e
      have := k.ha.w1.inlt q
      injection e
      omega, (k.ha.d1 b q).2⟩
  have o3 := (Grew.grown g).own k.ha.o3 (fun b q e => k.ha.d2 b e q)
  have g0 := gset1 W' H 1 u
  have bW : Below w.heap.size w W' := by
    refine ⟨g.os.trans k.bel.os, g.tape.trans k.bel.tape, g.output.trans k.bel.output, Nat.le_trans k.bel.size g.size, fun b hb => (g.block b (Nat.lt_of_lt_of_le hb k.bel.size) (fun e => by have := lw b e.symm; omega)).trans (k.bel.block b hb)⟩
  have nN : some N ≠ v2.ownBlock := fun e => by have := lw N e.symm; omega
  have G2 := gbel bW g0 bW.size (by omega)
  refine ⟨row, ⟨⟨k.br0.later G2, k.dw.len, (k.dw.dr.grown g nN k.lt).grown g0 (fun e => by injection e; omega) (Nat.lt_of_lt_of_le k.lt g.size), k.dw.off⟩, k.br0, G2, (row.set 1 u).congr (fun i hi => by rcases i with _ | _ | _ | _ | _ | _ | _ | _ | i <;> first | rfl | omega), (⟨i1, k.ha.b1, own, o3, d1, d2, k.ha.fw.block (fun b q hl => g.block b hl (fun e => (k.ha.d1 b q).1 e.symm))⟩ : HA B W' { t with roots := l } v1 u v3).box row g0 k.nH, ⟨f, res.setOther (a := ⟨H, 1, none⟩) (by show w.heap.size ≠ H; omega) u⟩, k.nH, hR, hN, hB, ⟨k.sz.1, hl, k.sz.2.2⟩⟩⟩

end Go.Proofs.YtklafifiphbibaaGreat

/- The state of the public draws: how it begins, and the answer written. -/
namespace Go.Proofs.YtklafifiphbibaaGreat
open Go.RowKit

theorem AX.new {w w1 w2 : World} {N : Nat} {cv : Value} {cs : List UInt8} {t : Hp} {v1 v2 v3 : Value} {f : Nat → Value} (hc : BR w cv cs) (hb : Below w.heap.size w w1) (R1 : w1.rowIs w.heap.size 26 8 f) (hN : w.heap.size < N) (hN1 : N < w1.heap.size) (g2 : w1.grownBy w2 (some N)) (d2 : Dw N cv cs w2)
    (ha : HA w1.heap.size w2 t v1 v2 v3) (sz : t.words.length ≤ 3200 ∧ t.roots.length ≤ 21 ∧ t.kept.length ≤ 3201) : AX w w1.heap.size N cv cs w2.heap.size (w2.alloc (.cells #[v1, v2, .int .i64 t.old, .int .i64 t.eden, .int .i64 t.surv, .bool t.flip, .int .i64 t.hash, v3] 26)) t v1 v2 v3 := by
  have al := bel_one w2 (.cells #[v1, v2, .int .i64 t.old, .int .i64 t.eden, .int .i64 t.surv, .bool t.flip, .int .i64 t.hash, v3] 26)
  have s2 := g2.size
  have bs := hb.size
  have R2 := R1.of_block (g2.block _ R1.lt (fun e => by have := Option.some.inj e; omega))
  exact ⟨d2.more al (by omega), hc, (gbel hb g2 (by omega) (by omega)).trans (al.mono (by omega)), row_any w2 #[v1, v2, .int .i64 t.old, .int .i64 t.eden, .int .i64 t.surv, .bool t.flip, .int .i64 t.hash, v3] 26, ha.later al, ⟨_, R2.of_block (al.block _ R2.lt)⟩, fun q => by have := ha.w1.inlt q; omega, hN, hN1, by omega, sz⟩
theorem AX.ans {w : World} {B N : Nat} {cv : Value} {cs : List UInt8} {H : Nat} {W W' : World} {t : Hp} {v1 v2 v3 : Value} {f : Nat → Value} (k : AX w B N cv cs H W t v1 v2 v3) (g : W.grownBy W' (some w.heap.size)) (F : W'.rowIs w.heap.size 26 8 f) : AX w B N cv cs H W' t v1 v2 v3 := by
  have hN := k.hN
  have hB := k.hB
  have hR := k.hR
  have G := gbel k.bel g k.bel.size (Nat.le_refl _)
  exact ⟨⟨k.br0.later G, k.dw.len, k.dw.dr.grown g (fun e => by have := Option.some.inj e; omega) k.lt, k.dw.off⟩, k.br0, G, k.row.of_block (g.block _ k.row.lt (fun e => by have := Option.some.inj e; omega)), k.ha.off g (by omega), ⟨f, F⟩, k.nH, hR, hN, hB, k.sz⟩
theorem AX.hr {w : World} {B N : Nat} {cv : Value} {cs : List UInt8} {H : Nat} {W : World} {t : Hp} {v1 v2 v3 : Value} (k : AX w B N cv cs H W t v1 v2 v3) : HR W (.agg #[v1, v2, .int .i64 t.old, .int .i64 t.eden, .int .i64 t.surv, .bool t.flip, .int .i64 t.hash, v3]) t := k.ha.hr
theorem store_run (W : World) (b : Nat) (cs : Array Value) (f : Nat → Value) (hR : W.rowIs b 26 8 f) (hn : cs.size = 8) (h1 : cs.all (·.oneCell') = true) : ∃ w', (Instr.storeAt 26 (.pointer (some ⟨b, 0, none⟩)) (.agg cs)).run Tryz.prog W = .ok () w' ∧ w'.rowIs b 26 8 (fun i => cs[i]?.getD undef) ∧ W.grownBy w' (some b) :=
  ⟨_, run_store_box W 26 26 b 8 cs f hR hn (by kernel_rfl) h1, row_set W b _ 8 cs f hR hn, grown_setRow W b cs⟩
theorem exec_store {o : Oper} {T : Array Value} {D : List Deferred} {W W' : World} {p s : Operand} {t : TypeId} {a u : Value} (ho : o.op = .store t p s) (hp : Act.eval ⟨T, D⟩ p = a) (hs : Act.eval ⟨T, D⟩ s = u) (hrun : (Instr.storeAt t a u).run Tryz.prog W = .ok () W') :
    (execOp (Act.eval ⟨T, D⟩) o).run Tryz.prog W = .ok .skip W' := by
  simp [execOp, ho, hp, hs, hrun]
theorem lit_at {W0 W : World} {N : Nat} (C : Array Value) (hC : C.toList.all isJ = true) (g : (W0.alloc (.cells C 2)).grownBy W (some N)) (hN : N < W0.heap.size) (z : Nat) (hz : z < C.size) : ∃ m : Int, W.cell? ⟨W0.heap.size, z, none⟩ = some (.int .i64 m) ∧ In64 m := lit_in C hC g hN z hz

end Go.Proofs.YtklafifiphbibaaGreat

/- copy of numbers into a row of the call's own, as a run and as a step of a region. -/
namespace Go.Proofs.YtklafifiphbibaaGreat
open Go.RowKit

/-- copy of numbers into a row of the call's own, as a run. -/
theorem run_copy_ints (w : World) (ty : TypeId) (g off dLen dCap : Nat) (W : List Int) (c : Nat) (hrow : RI w g W c) (hW : off + dLen ≤ W.length)
    (l : List Int) (sp : Option Addr) (sCap : Nat) (hsv : IR w (.slice sp l.length sCap) l) (hl : l.length ≤ dLen) :
    ∃ w', (Builtin.copy_ #[24, 24] ty #[.slice (some ⟨g, off, none⟩) dLen dCap, .slice sp l.length sCap]).run Tryz.prog w = .ok (goInt l.length) w' ∧ RI w' g (splice W off l) c ∧ w.grownBy w' (some g) := by
  have hsz : (Tryz.prog.info? 2).map (·.size) = some 1 := by kernel_rfl
  by_cases h0 : l.length = 0
  · obtain rfl : l = [] := List.eq_nil_of_length_eq_zero h0
    refine ⟨w, run_copy_none (P := Tryz.prog) w 24 24 ty 2 _ sp dLen dCap _ sCap Tryz.underlying24 hsz (by simp), ?_, ⟨rfl, rfl, rfl, Nat.le_refl _, fun _ _ _ => rfl⟩⟩
    rw [show splice W off [] = W from by simp [splice]]
    exact hrow
  · obtain ⟨f, ⟨cur, hg, hcs, hcf⟩, hN, e⟩ := hrow
    obtain ⟨ao, cap, e1, _, hc⟩ := hsv
    simp only [Value.slice.injEq, true_and] at e1
    obtain ⟨rfl, rfl⟩ := e1
    obtain ⟨b, q, rfl, _⟩ := hc 0 (by omega)
    have hcl := icells_length l
    have R := set_row_ri (w := w) (g := g) (off := off) (W := W) (l := l) hg (by omega) (fun i hi => by rw [hcf i (by omega), e i hi]) (by omega)
    rw [hcl, hcs] at R
    have run := run_copy_row (P := Tryz.prog) w 24 24 ty 2 g off dLen dCap ⟨b, q, none⟩ l.length sCap cur 2 (icells l) Tryz.underlying24 hsz hg (by rw [hcl]; exact (Nat.min_eq_left hl).symm) (fun j v hj => by
      have hj' : j < l.length := by
        rcases Nat.lt_or_ge j l.length with k | k
        · exact k
        · rw [List.getElem?_eq_none (by omega)] at hj; cases hj
      obtain ⟨b', q', e2, hcell⟩ := hc j hj'
      simp only [Option.some.injEq, Addr.mk.injEq, and_true] at e2
      obtain ⟨rfl, rfl⟩ := e2
      have hv : v = .int .i64 (l.getD j 0) := by
        simp [icells, hj'] at hj
        rw [← hj]
        simp [hj']
      rw [hv, ← hcell]
      unfold Addr.add
      split
      · subst j; rfl
      · simp) (by omega) (fun v hv => by
      obtain ⟨z, _, rfl⟩ := List.mem_map.1 hv
      rfl)
    rw [hcl] at run
    rw [← List.append_assoc] at R
    exact ⟨_, run, R, grown_setRow w g _⟩

/-- The same as one step of a region that draws its order. -/
theorem step_copy_ints {ops : Array Oper} {o : Oper} {a : Act} {w : World} {K : Act → World → Prop} {Q : Exit → Act → World → Prop} {E : Prop} (hgd : o.guard = none) (d s : Operand)
    (ho : o.op = .call { callee := .builtin .copy, args := #[d, s], argTypes := #[24, 24] })
    (g off dLen dCap : Nat) (hd : a.eval d = .slice (some ⟨g, off, none⟩) dLen dCap) (W : List Int) (c : Nat) (hrow : RI w g W c) (hW : off + dLen ≤ W.length)
    (l : List Int) (sp : Option Addr) (n sCap : Nat) (hn : n = l.length) (hs : a.eval s = .slice sp n sCap) (hsv : IR w (.slice sp n sCap) l) (hl : n ≤ dLen)
    (h : ∀ w', RI w' g (splice W off l) c → w.grownBy w' (some g) → K (a.put o.dst (goInt l.length)) w') :
    if Region.wanted o (yielded ops a.tmps) = true then Oper.wp Tryz.prog o a w K Q else E := by
  subst hn
  have hw : Region.wanted o (yielded ops a.tmps) = true := by simp [Region.wanted, hgd]
  rw [if_pos hw]
  obtain ⟨w', run, R, G⟩ := run_copy_ints w o.type g off dLen dCap W c hrow hW l sp sCap hsv hl
  unfold Oper.wp
  simp [execOp, ho, resolve, invoke, builtin, hd, hs, run, Result.andThen]
  exact h w' R G

theorem RI.cut {w : World} {g c cap i : Nat} {k : List Int} (h : RI w g k c) (hc : k.length - i ≤ cap) : IR w (.slice (some ⟨g, i, none⟩) (k.length - i) cap) (k.drop i) := by
  refine ⟨_, cap, by rw [List.length_drop], by rw [List.length_drop]; exact hc, fun j hj => ⟨g, i, rfl, ?_⟩⟩
  rw [List.length_drop] at hj
  rw [h.cell (i := i + j) (by omega)]
  simp [List.getD_eq_getElem?_getD]

end Go.Proofs.YtklafifiphbibaaGreat
