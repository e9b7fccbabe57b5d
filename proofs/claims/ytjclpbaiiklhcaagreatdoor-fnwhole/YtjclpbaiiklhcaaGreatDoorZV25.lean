import Derived.Test.YtjclpbaiiklhcaaGreatDoorZV24
import Derived.Test.YtjclpbaiiklhcaaGreatDoorZDImplCrash
import Derived.Test.YtjclpbaiiklhcaaGreatDoorZV16
import Derived.Test.YtjclpbaiiklhcaaGreatDoorZDBase
import Derived.Deep.RegionWith
import Derived.Test.YtjclpbaiiklhcaaGreatDoorZV23
/- eqBoolS, markBoolS: slices of flags held against each other, and marked. -/
namespace Go.Proofs.YtjclpbaiiklhcaaGreatDoor.Disk
open Go.RowKit

theorem blists_eq {ss tt : List Bool} (hl : ss.length = tt.length) (h : ∀ j, j < ss.length → ss.getD j false = tt.getD j false) : ss = tt := by
  refine List.ext_getElem hl fun i h1 h2 => ?_
  have := h i h1
  simpa [List.getD_eq_getElem?_getD, h1, h2] using this



end Go.Proofs.YtjclpbaiiklhcaaGreatDoor.Disk

/- The walk of the law on Crash. -/
namespace Go.Proofs.YtjclpbaiiklhcaaGreatDoor.Disk
open Go.RowKit

theorem crashS_length (bs : List Bool) (tn : Int) (ss : List ByteArray) (ws : List Wr) : (crashS bs tn ss ws).length ≤ ss.length := by
  unfold crashS
  split
  · rw [crashN_length]; exact Nat.le_refl _
  · simp

/-- Flags whose row lies in a block from lo on and below hi. -/
structure BK (lo hi : Nat) (w : World) (v : Value) (bs : List Bool) : Prop where
  os : OS w 4 1 v bs.length
  lr : LR w v bs
  r : ∀ b, rowOf v bs.length = some b → lo ≤ b ∧ b < hi

theorem BK.of {lo : Nat} {w : World} {v : Value} {bs : List Bool} (h : NB lo w v bs) : BK lo w.heap.size w v bs :=
  ⟨h.1, h.2.1, fun b e => ⟨h.2.2 b e, h.1.row b e⟩⟩
theorem BK.later {lo hi : Nat} {w w' : World} {v : Value} {bs : List Bool} (h : BK lo hi w v bs) (hb : Below w.heap.size w w') : BK lo hi w' v bs := ⟨h.os.later hb, h.lr.later hb, h.r⟩
theorem BK.s {lo hi : Nat} {w : World} {v : Value} {bs : List Bool} (h : BK lo hi w v bs) : ∃ ao n cap, v = .slice ao n cap := by
  obtain ⟨ao, cap, e, _⟩ := h.os
  exact ⟨ao, _, cap, e⟩
theorem LR.two {w w' : World} {v : Value} {bs : List Bool} {r1 r2 : Option Nat} (h : LR w v bs) (T : Two w w' r1 r2) (h1 : ∀ b, rowOf v bs.length = some b → some b ≠ r1 ∧ some b ≠ r2) : LR w' v bs := by
  obtain ⟨ao, cap, rfl, h⟩ := h
  refine ⟨ao, cap, rfl, fun i hi => ?_⟩
  obtain ⟨b, o, rfl, hc⟩ := h i hi
  obtain ⟨e1, e2⟩ := h1 b (by rw [rowOf, if_neg (by omega)]; rfl)
  exact ⟨b, o, rfl, T.cell hc e1 e2⟩
theorem BK.two {lo hi lo' hi' : Nat} {w w' : World} {v : Value} {bs : List Bool} {r1 r2 : Option Nat} (h : BK lo hi w v bs) (T : Two w w' r1 r2) (hr1 : ∀ b, r1 = some b → lo' ≤ b ∧ b < hi') (hr2 : ∀ b, r2 = some b → lo' ≤ b ∧ b < hi') (hd : hi ≤ lo' ∨ hi' ≤ lo) : BK lo hi w' v bs := by
  have key : ∀ b, lo ≤ b ∧ b < hi → some b ≠ r1 ∧ some b ≠ r2 := fun b hb => ⟨in_ne hr1 (by omega), in_ne hr2 (by omega)⟩
  exact ⟨h.os.two T (fun b e => key b (h.r b e)), h.lr.two T (fun b e => key b (h.r b e)), h.r⟩


end Go.Proofs.YtjclpbaiiklhcaaGreatDoor.Disk

/- Cut of the model. -/
namespace Go.Proofs.YtjclpbaiiklhcaaGreatDoor
open Go.RowKit Disk

/-- What a cut commit leaves. -/
def cutS (ss : List ByteArray) (ws : List Wr) (bs : List ByteArray) (dn : Int) (ls : List Bool) (tn : Int) : List ByteArray :=
  if scrOk ss ws bs = true ∧ 0 ≤ dn then
    if dn < (scrW ss bs).length then crashS ls tn ss ((scrW ss bs).take dn.toNat)
    else crashS ls tn (doneS ss ((scrW ss bs).take ((scrW ss bs).length - 1))) ((scrW ss bs).drop ((scrW ss bs).length - 1))
  else []
theorem cutS_no {ss : List ByteArray} {ws : List Wr} {bs : List ByteArray} {dn : Int} {ls : List Bool} {tn : Int} (h : ¬ (scrOk ss ws bs = true ∧ 0 ≤ dn)) : cutS ss ws bs dn ls tn = [] := by unfold cutS; rw [if_neg h]
theorem cutS_some {ss : List ByteArray} {ws : List Wr} {bs : List ByteArray} {dn : Int} {ls : List Bool} {tn : Int} (h : scrOk ss ws bs = true) (k : Nat) (hk : dn = k) (hl : k < (scrW ss bs).length) : cutS ss ws bs dn ls tn = crashS ls tn ss ((scrW ss bs).take k) := by
  unfold cutS
  rw [if_pos ⟨h, by omega⟩, if_pos (by omega), hk, Int.toNat_natCast]
theorem cutS_all {ss : List ByteArray} {ws : List Wr} {bs : List ByteArray} {dn : Int} {ls : List Bool} {tn : Int} (h : scrOk ss ws bs = true) (p : Nat) (hp : (scrW ss bs).length = p + 1) (hd : (p : Int) < dn) : cutS ss ws bs dn ls tn = crashS ls tn (doneS ss ((scrW ss bs).take p)) ((scrW ss bs).drop p) := by
  unfold cutS
  rw [if_pos ⟨h, by omega⟩, if_neg (by omega), hp]
  rfl

theorem WR_cells {w : World} {b o cap n : Nat} {W : List Wr} (h : WR w (.slice (some ⟨b, o, none⟩) n cap) W) : ∀ (j : Nat) (u : Value), (lcells W)[j]? = some u → w.cell? ((⟨b, o, none⟩ : Addr).add j) = some u := by
  intro j u hu
  obtain ⟨ao', cap', e, h⟩ := h
  simp only [Value.slice.injEq] at e
  obtain ⟨rfl, rfl, rfl⟩ := e
  have hj : j < W.length * 2 := by
    have := List.getElem?_eq_some_iff.1 hu
    obtain ⟨hlt, _⟩ := this
    rw [lcells_length] at hlt
    exact hlt
  rw [lcells_get W j hj] at hu
  cases hu
  rw [Addr.add_lit]
  obtain ⟨b2, o2, e2, c0, c1⟩ := h (j / 2) (by omega)
  cases e2
  unfold lcell
  split
  · rename_i he
    rw [← c0]
    congr 2
    omega
  · rename_i he
    rw [← c1]
    congr 2
    omega
theorem lcells_one {W : List Wr} : ∀ u ∈ lcells W, u.oneCell' = true := by
  intro u hu
  obtain ⟨j, hj, e⟩ := List.mem_iff_getElem.1 hu
  rw [lcells_length] at hj
  have h2 := lcells_get W j hj
  rw [List.getElem?_eq_getElem (by rw [lcells_length]; exact hj), e] at h2
  cases h2
  unfold lcell
  split <;> rfl
/-- Writes appended to a new empty row. -/
theorem app_many {ops : Array Oper} {rest : List Oper} {o : Oper} {a : Act} {Q : Exit → Act → World → Prop} (w : World) (hgd : o.guard = none) (s x : Operand)
    (ho : o.op = .call { callee := .builtin .append, args := #[s, x], argTypes := #[25, 25] }) (B : Nat) (v : Value) (hs : a.eval s = v) (hown : w.ownsRow B 48 2 v 0 [])
    (b n c : Nat) (W : List Wr) (hx : a.eval x = .slice (some ⟨b, 0, none⟩) n c) (hl : W.length = n) (hw : WR w (.slice (some ⟨b, 0, none⟩) n c) W) (hn : n ≤ 1000000000000) (hB : B ≤ w.heap.size)
    (h : ∀ v' w', w'.ownsRow B 48 2 v' W.length (lcells W) → w.grownBy w' v.ownBlock → wpList Tryz.prog ops Q rest (a.put o.dst v') w') : wpList Tryz.prog ops Q (o :: rest) a w := by
  obtain ⟨i, hi, hzz⟩ := Option.map_eq_some_iff.1 Tryz.infoW
  simp only [Prod.mk.injEq] at hzz
  obtain ⟨hz, hsz, hby⟩ := hzz
  refine wpList_append_own w hgd s x 25 ho B 48 i _ 2 24 (by kernel_rfl) hi hz hsz hby rfl (by omega) v 0 [] hs hown ⟨b, 0, none⟩ n c (lcells W) hx (by rw [lcells_length, hl]) (WR_cells hw) lcells_one (by unfold maxLen; omega) (by omega) hB (fun v' w' h1 h2 _ => h v' w' (by rw [Nat.zero_add, List.nil_append] at h1; rw [hl]; exact h1) h2)

theorem wr_at {w : World} {b o n cap : Nat} {W : List Wr} (h : WR w (.slice (some ⟨b, o, none⟩) n cap) W) (k : Nat) (hk : k < W.length) : ∃ b2 o2, (some ⟨b, o, none⟩ : Option Addr) = some ⟨b2, o2, none⟩ ∧ w.cell? ⟨b2, o2 + k * 2, none⟩ = some (.int .i64 (W.getD k wr0).1) ∧ w.cell? ⟨b2, o2 + k * 2 + 1, none⟩ = some (.string (W.getD k wr0).2) := by
  obtain ⟨ao', cap', e, h⟩ := h
  simp only [Value.slice.injEq] at e
  obtain ⟨rfl, rfl, rfl⟩ := e
  exact h k hk
theorem cell_put' {w : World} {R : Nat} {u v : Value} (h : w.cell? ⟨R, 0, none⟩ = some v) : (w.setCell ⟨R, 1, none⟩ u).cell? ⟨R, 0, none⟩ = some v := by rw [World.cell?_setCell_other _ _ _ _ (by simp)]; exact h
theorem two_setC {W : World} {R : Nat} {u0 u1 : Value} (c0 : W.cell? ⟨R, 0, none⟩ = some u0) (c1 : W.cell? ⟨R, 1, none⟩ = some u1) (v0 v1 : Value) : ((W.setCell ⟨R, 0, none⟩ v0).setCell ⟨R, 1, none⟩ v1).cell? ⟨R, 0, none⟩ = some v0 ∧ ((W.setCell ⟨R, 0, none⟩ v0).setCell ⟨R, 1, none⟩ v1).cell? ⟨R, 1, none⟩ = some v1 := by
  have h1 : (W.setCell ⟨R, 0, none⟩ v0).cell? ⟨R, 1, none⟩ = some u1 := by rw [World.cell?_setCell_other _ _ _ _ (by simp)]; exact c1
  refine ⟨?_, World.cell?_setCell_same _ _ _ h1⟩
  rw [World.cell?_setCell_other _ _ _ _ (by simp)]
  exact World.cell?_setCell_same _ _ _ c0
theorem drop_last {W : List Wr} {p : Nat} (h : W.length = p + 1) : W.drop p = [W.getD p wr0] := by
  rw [List.drop_eq_getElem_cons (by omega), List.drop_of_length_le (by omega)]
  simp [List.getD_eq_getElem?_getD, h]

set_option maxRecDepth 100000 in
set_option maxHeartbeats 3200000 in
theorem specCut_any (v1 v2 bv vl : Value) (ss : List ByteArray) (ws : List Disk.Wr) (bs : List ByteArray) (dn : Int) (ls : List Bool) (tn : Int) (w : World)
    (hv1 : Disk.SR w v1 ss) (hv2 : Disk.WR w v2 ws) (h1 : ss.length ≤ 10000000000000) (h2 : ws.length ≤ 10000000000000) (hbv : Disk.SR w bv bs) (h3 : bs.length ≤ 10000000000000) (hvl : LR w vl ls) (h4 : ls.length ≤ 1000000000000000) :
    Calls Tryz.prog 18 #[.agg #[v1, v2], bv, .int .i64 dn, vl, .int .i64 tn] w fun e w' => ∃ u1 u2, e = .returned (.agg #[u1, u2]) ∧ ND w.heap.size w' u1 u2 (cutS ss ws bs dn ls tn) [] ∧ Below w.heap.size w w' := by
  have hb0 := Disk.bel_two w (.cells #[v1, v2] 27) (.cells #[.slice none 0 0, .slice none 0 0] 27)
  have S := l3Script_any v1 v2 bv ss ws bs _ (hv1.later hb0) (hv2.later hb0) h1 h2 (hbv.later hb0) h3
  go_enter Tryz.func18, Tryz.ntmps18
  go_wp2_with (fail)
  refine S.mono ?_
  rintro x w1 ⟨⟨wv, rfl, ho⟩, hb1⟩
  have hbw1 : Below w.heap.size w w1 := hb0.trans (hb1.mono (by simp; omega))
  have r1 : Res (w.heap.size + 1) w1 := Res.later ⟨cell_new _ _ 27 _ (by simp) 0 _ rfl, cell_new _ _ 27 _ (by simp) 1 _ rfl, frozen_new _ _ 27 _ (by simp) 0, frozen_new _ _ 27 _ (by simp) 1, by simp⟩ hb1
  have c0 : w1.cell? ⟨w.heap.size, 0, none⟩ = some v1 := cell_later hb1 (cell_later (Disk.bel_one _ _) (cell_new w #[v1, v2] 27 _ rfl 0 _ rfl))
  have c1 : w1.cell? ⟨w.heap.size, 1, none⟩ = some v2 := cell_later hb1 (cell_later (Disk.bel_one _ _) (cell_new w #[v1, v2] 27 _ rfl 1 _ rfl))
  clear S
  have NO2 : ∀ (hno : ¬ (scrOk ss ws bs = true ∧ 0 ≤ dn)), cutS ss ws bs dn ls tn = [] := cutS_no
  have q0 := r1.1
  have q1 := r1.2.1
  have f0 := r1.2.2.1
  have f1 := r1.2.2.2.1
  have ltR : w.heap.size + 1 < w1.heap.size := r1.2.2.2.2
  have HR1 : Hid (Res (w.heap.size + 1) w1) := r1
  clear r1
  have e5 := (hbw1.setCell (p := ⟨w.heap.size + 1, 0, none⟩) (by simp) (.slice none 0 0)).setCell (p := ⟨w.heap.size + 1, 1, none⟩) (by simp) (.slice none 0 0)
  cases hok : scrOk ss ws bs
  · have E6 : Hid (cutS ss ws bs dn ls tn = []) := NO2 (by rw [hok]; simp)
    clear hok NO2 ho
    go_wp2
    exact bodyPost_ret (v := .agg #[.slice none 0 0, .slice none 0 0]) (by simp [results, Tryz.results18, go_sem, q0, q1]) rfl ⟨_, _, rfl, by rw [E6.out]; exact nd_zero _ _, e5⟩
  by_cases hdn : dn < 0
  · have E6 : Hid (cutS ss ws bs dn ls tn = []) := NO2 (fun h => by omega)
    clear hok NO2 ho
    go_wp2
    exact bodyPost_ret (v := .agg #[.slice none 0 0, .slice none 0 0]) (by simp [results, Tryz.results18, go_sem, q0, q1]) rfl ⟨_, _, rfl, by rw [E6.out]; exact nd_zero _ _, e5⟩
  obtain ⟨k, rfl⟩ := Int.eq_ofNat_of_zero_le (a := dn) (by omega)
  obtain ⟨o1, o2, _, _⟩ := scrOk_parts hok
  rw [scriptR_yes hok] at ho
  have hlen := (scrW_length ss bs).1
  have hlen2 := (scrW_length ss bs).2
  have CS : ∀ (hl : k < (scrW ss bs).length), cutS ss ws bs k ls tn = crashS ls tn ss ((scrW ss bs).take k) := fun hl => cutS_some hok k rfl hl
  have CA := fun p hp hd => cutS_all (dn := (k : Int)) (ls := ls) (tn := tn) hok p hp hd
  obtain ⟨b, p, c, rfl, hl, hwr, hbB, hbz⟩ := writes_form ho hlen
  obtain ⟨k1, k2⟩ := super_okD hok p
  generalize scrW ss bs = W at *
  obtain ⟨l64, l200, _, _⟩ := okD_all o1
  have HL : Hid (W.length = p + 1) := hl
  have H64 : Hid (ss.length = 64) := l64
  have hp30 : p ≤ 30 := by omega
  clear hok NO2 hl l64 ho hlen hlen2 e5
  go_wp2_with (fail)
  refine (specCopy_any _ _ ss ws _ (hv1.later hbw1) (hv2.later hbw1) (by have := H64.out; omega) (by omega)).mono ?_
  rintro e w2 ⟨u1, u2, rfl, hN2, hb2⟩
  obtain ⟨xa, xn, xc, rfl⟩ := hN2.s1
  obtain ⟨ya, yn, yc, rfl⟩ := hN2.s2
  have hbw2 := bel_after hbw1 hb2
  by_cases hkp : k ≤ p
  · have hkp' : decide ((k : Int) ≤ (p : Int)) = true := by simp; omega
    have hkc : (k : Int) ≤ (p : Int) + ((c : Int) + 1) := by omega
    have hal := Disk.bel_two w2 (.cells #[.slice xa xn xc, .slice ya yn yc] 27) (.cells #[] 48)
    have own0 := own_none (w2.alloc (.cells #[.slice xa xn xc, .slice ya yn yc] 27)) (w2.heap.size + 1) 48 2 (by simp)
    simp only [World.size_alloc] at own0
    have hwk := WR_take (p := k) ((hwr.later hb2).later hal) (by rw [HL.out]; omega)
    have E6 : Hid (cutS ss ws bs k ls tn = crashS ls tn ss (W.take k)) := CS (by rw [HL.out]; omega)
    have hlk : (W.take k).length = k := by rw [List.length_take, HL.out]; omega
    have kb0 : ((w2.alloc (.cells #[.slice xa xn xc, .slice ya yn yc] 27)).alloc (.cells #[] 48)).cell? ⟨w2.heap.size, 0, none⟩ = some (.slice xa xn xc) := cell_later (Disk.bel_one _ _) (cell_new w2 _ 27 _ rfl 0 _ rfl)
    have kb1 : ((w2.alloc (.cells #[.slice xa xn xc, .slice ya yn yc] 27)).alloc (.cells #[] 48)).cell? ⟨w2.heap.size, 1, none⟩ = some (.slice ya yn yc) := cell_later (Disk.bel_one _ _) (cell_new w2 _ 27 _ rfl 1 _ rfl)
    have kf1 : ((w2.alloc (.cells #[.slice xa xn xc, .slice ya yn yc] 27)).alloc (.cells #[] 48)).frozen? ⟨w2.heap.size, 1, none⟩ = false := Disk.frozen_later (Disk.bel_one _ _) (by simp) (frozen_new w2 _ 27 _ rfl 1)
    go_wp2_with (at_builtin; refine app_many _ rfl _ _ rfl (w2.heap.size + 1) (.slice (some ⟨w2.heap.size + 1, 0, none⟩) 0 0) rfl own0 b k _ (W.take k) rfl hlk hwk (by omega) (by simp) ?_; intro v5 w5 own5 g5; have B25 : Below w2.heap.size w2 w5 := grown_bel hal g5 (by simp; omega) (fun r e => by simp [Value.ownBlock] at e; omega); obtain ⟨la, ln, lc, rfl⟩ := NO.s1 (.inr own5); have m0 := g5.cell kb0 (by simp [Value.ownBlock]); have m1 := g5.cell kb1 (by simp [Value.ownBlock]); have mf : w5.frozen? ⟨w2.heap.size, 1, none⟩ = false := (World.frozen?_of_block (g5.block w2.heap.size (by simp; omega) (by simp [Value.ownBlock]))).trans kf1; have ltb : w2.heap.size < w5.heap.size := World.block_lt_of_cell? _ _ m0)
    have hb26 : Below w2.heap.size w2 (w5.setCell ⟨w2.heap.size, 1, none⟩ (.slice la ln lc)) := B25.setCell (p := ⟨w2.heap.size, 1, none⟩) (Nat.le_refl _) _
    have hs6 := hN2.2.2.1.later hb26
    have hw6 := (nw_of_owns (own_store (o := 1) own5 (Nat.lt_succ_self _) (.slice la ln lc))).2.1
    have hb16 := bel_after hb2 hb26
    have hbw6 := bel_after hbw1 hb16

    refine (specCrash_any _ _ _ ss (W.take k) ls tn _ hs6 hw6 (hvl.later hbw6) (by have := H64.out; omega) (by rw [hlk]; omega) h4).mono ?_
    rintro e w7 ⟨z1, z2, rfl, hN7, hb7⟩
    have hb17 := bel_after hb16 hb7
    have hbw7 := bel_after hbw6 hb7
    obtain ⟨q0, q1, f0, f1⟩ := Res.cut HR1.out hb17
    obtain ⟨za, zn, zc, rfl⟩ := hN7.s1
    obtain ⟨ta, tn', tc, rfl⟩ := hN7.s2
    have hz6 : w.heap.size + 1 < (w5.setCell ⟨w2.heap.size, 1, none⟩ (.slice la ln lc)).heap.size := Nat.lt_of_lt_of_le ltR hb16.size
    have P1 := (NS.store (b := w.heap.size + 1) (o := 0) (B := (w5.setCell ⟨w2.heap.size, 1, none⟩ (.slice la ln lc)).heap.size) ⟨hN7.1, hN7.2.2.1, hN7.2.2.2.2.1⟩ (.slice za zn zc) hz6).store (b := w.heap.size + 1) (o := 1) (.slice ta tn' tc) hz6
    have P4 := (NW.store (b := w.heap.size + 1) (o := 0) (B := (w5.setCell ⟨w2.heap.size, 1, none⟩ (.slice la ln lc)).heap.size) ⟨hN7.2.1, hN7.2.2.2.1, hN7.2.2.2.2.2⟩ (.slice za zn zc) hz6).store (b := w.heap.size + 1) (o := 1) (.slice ta tn' tc) hz6
    have P2 := (hbw7.setCell (p := ⟨w.heap.size + 1, 0, none⟩) (by simp) (.slice za zn zc)).setCell (p := ⟨w.heap.size + 1, 1, none⟩) (by simp) (.slice ta tn' tc)
    clear hN7
    go_wp2
    exact bodyPost_ret (v := .agg #[.slice za zn zc, .slice ta tn' tc]) (by simp [results, Tryz.results18, go_sem, q0, q1]) rfl ⟨_, _, rfl, by rw [E6.out]; exact ND_of (P1.mono (by omega)) (P4.mono (by omega)), P2⟩
  · have hkp' : decide ((k : Int) ≤ (p : Int)) = false := by simp; omega
    have hkc : (p : Int) ≤ (p : Int) + ((c : Int) + 1) := by omega
    have hal := Disk.bel_two w2 (.cells #[.slice xa xn xc, .slice ya yn yc] 27) (.cells #[] 48)
    have own0 := own_none (w2.alloc (.cells #[.slice xa xn xc, .slice ya yn yc] 27)) (w2.heap.size + 1) 48 2 (by simp)
    simp only [World.size_alloc] at own0
    have hwk := WR_take (p := p) ((hwr.later hb2).later hal) (by rw [HL.out]; omega)
    have E6 : Hid (cutS ss ws bs k ls tn = crashS ls tn (doneS ss (W.take p)) (W.drop p)) := CA p HL.out (by omega)
    have hlk : (W.take p).length = p := by rw [List.length_take, HL.out]; omega
    have kb0 : ((w2.alloc (.cells #[.slice xa xn xc, .slice ya yn yc] 27)).alloc (.cells #[] 48)).cell? ⟨w2.heap.size, 0, none⟩ = some (.slice xa xn xc) := cell_later (Disk.bel_one _ _) (cell_new w2 _ 27 _ rfl 0 _ rfl)
    have kb1 : ((w2.alloc (.cells #[.slice xa xn xc, .slice ya yn yc] 27)).alloc (.cells #[] 48)).cell? ⟨w2.heap.size, 1, none⟩ = some (.slice ya yn yc) := cell_later (Disk.bel_one _ _) (cell_new w2 _ 27 _ rfl 1 _ rfl)
    have kf1 : ((w2.alloc (.cells #[.slice xa xn xc, .slice ya yn yc] 27)).alloc (.cells #[] 48)).frozen? ⟨w2.heap.size, 1, none⟩ = false := Disk.frozen_later (Disk.bel_one _ _) (by simp) (frozen_new w2 _ 27 _ rfl 1)
    have kf0 : ((w2.alloc (.cells #[.slice xa xn xc, .slice ya yn yc] 27)).alloc (.cells #[] 48)).frozen? ⟨w2.heap.size, 0, none⟩ = false := Disk.frozen_later (Disk.bel_one _ _) (by simp) (frozen_new w2 _ 27 _ rfl 0)
    go_wp2_with (at_builtin; refine app_many _ rfl _ _ rfl (w2.heap.size + 1) (.slice (some ⟨w2.heap.size + 1, 0, none⟩) 0 0) rfl own0 b p _ (W.take p) rfl hlk hwk (by omega) (by simp) ?_; intro v5 w5 own5 g5; have B25 : Below w2.heap.size w2 w5 := grown_bel hal g5 (by simp; omega) (fun r e => by simp [Value.ownBlock] at e; omega); obtain ⟨la, ln, lc, rfl⟩ := NO.s1 (.inr own5); have m0 := g5.cell kb0 (by simp [Value.ownBlock]); have m1 := g5.cell kb1 (by simp [Value.ownBlock]); have mf : w5.frozen? ⟨w2.heap.size, 1, none⟩ = false := (World.frozen?_of_block (g5.block w2.heap.size (by simp; omega) (by simp [Value.ownBlock]))).trans kf1; have mf0 : w5.frozen? ⟨w2.heap.size, 0, none⟩ = false := (World.frozen?_of_block (g5.block w2.heap.size (by simp; omega) (by simp [Value.ownBlock]))).trans kf0; have ltb : w2.heap.size < w5.heap.size := World.block_lt_of_cell? _ _ m0)
    have hb26 : Below w2.heap.size w2 (w5.setCell ⟨w2.heap.size, 1, none⟩ (.slice la ln lc)) := B25.setCell (p := ⟨w2.heap.size, 1, none⟩) (Nat.le_refl _) _
    have hs6 := hN2.2.2.1.later hb26
    have hw6 := (nw_of_owns (own_store (o := 1) own5 (Nat.lt_succ_self _) (.slice la ln lc))).2.1
    have hb16 := bel_after hb2 hb26
    have hbw6 := bel_after hbw1 hb16

    have HH := specHold_any _ _ ss (W.take p) _ hs6 hw6 (by have := H64.out; omega) (by rw [hlk]; omega)
    rw [hold_done k1] at HH
    refine HH.mono ?_
    rintro e w8 ⟨y1, y2, rfl, hN8, hb8⟩
    obtain ⟨ea, en, ec, rfl⟩ := hN8.s1
    obtain ⟨da, dn', dc, rfl⟩ := hN8.s2
    have n0 : w8.cell? ⟨w2.heap.size, 0, none⟩ = some (.slice xa xn xc) := cell_later hb8 (cell_put' m0)
    have n1 : w8.cell? ⟨w2.heap.size, 1, none⟩ = some (.slice la ln lc) := cell_later hb8 (World.cell?_setCell_same _ _ _ m1)
    have nf0 : w8.frozen? ⟨w2.heap.size, 0, none⟩ = false := Disk.frozen_later hb8 (by simpa [World.setCell] using ltb) (by rw [frozen_set]; exact mf0)
    have nf1 : w8.frozen? ⟨w2.heap.size, 1, none⟩ = false := Disk.frozen_later hb8 (by simpa [World.setCell] using ltb) (by rw [frozen_set]; exact mf)
    have lt8 : w2.heap.size < w8.heap.size := World.block_lt_of_cell? _ _ n0
    have hb28 : Below w2.heap.size w2 ((w8.setCell ⟨w2.heap.size, 0, none⟩ (.slice ea en ec)).setCell ⟨w2.heap.size, 1, none⟩ (.slice da dn' dc)) := ((bel_after hb26 hb8).setCell (p := ⟨w2.heap.size, 0, none⟩) (Nat.le_refl _) _).setCell (p := ⟨w2.heap.size, 1, none⟩) (Nat.le_refl _) _
    have hbs : w2.heap.size < (w5.setCell ⟨w2.heap.size, 1, none⟩ (.slice la ln lc)).heap.size := by simpa [World.setCell] using ltb
    have hS8 := (NS.store (b := w2.heap.size) (o := 0) (B := (w5.setCell ⟨w2.heap.size, 1, none⟩ (.slice la ln lc)).heap.size) ⟨hN8.1, hN8.2.2.1, hN8.2.2.2.2.1⟩ (.slice ea en ec) hbs).store (b := w2.heap.size) (o := 1) (.slice da dn' dc) hbs
    obtain ⟨b9, o9, e9, g0, g1⟩ := wr_at (hwr.later (bel_after hb2 hb28)) p (by rw [HL.out]; omega)
    cases e9
    rw [Nat.zero_add] at g0 g1
    have TW2 := two_setC n0 n1 (.slice ea en ec) (.slice da dn' dc)
    have sf1 : ((w8.setCell ⟨w2.heap.size, 0, none⟩ (.slice ea en ec)).setCell ⟨w2.heap.size, 1, none⟩ (.slice da dn' dc)).frozen? ⟨w2.heap.size, 1, none⟩ = false := by rw [frozen_set, frozen_set]; exact nf1
    have HDR : Hid (W.drop p = [W.getD p wr0]) := drop_last HL.out
    have ltP : w2.heap.size < ((w8.setCell ⟨w2.heap.size, 0, none⟩ (.slice ea en ec)).setCell ⟨w2.heap.size, 1, none⟩ (.slice da dn' dc)).heap.size := by simpa [World.setCell] using lt8
    have hpc : (p : Int) < (p : Int) + 1 := by omega
    generalize W.getD p wr0 = lst at *
    obtain ⟨l1, l2⟩ := lst
    simp only at g0 g1
    have hszP : ((w8.setCell ⟨w2.heap.size, 0, none⟩ (.slice ea en ec)).setCell ⟨w2.heap.size, 1, none⟩ (.slice da dn' dc)).heap.size = w8.heap.size := by simp [World.setCell]
    have ownA := own_none ((w8.setCell ⟨w2.heap.size, 0, none⟩ (.slice ea en ec)).setCell ⟨w2.heap.size, 1, none⟩ (.slice da dn' dc)) w8.heap.size 48 2 (by rw [hszP]; exact Nat.le_refl _)
    rw [hszP] at ownA
    have hA1 := Disk.bel_one ((w8.setCell ⟨w2.heap.size, 0, none⟩ (.slice ea en ec)).setCell ⟨w2.heap.size, 1, none⟩ (.slice da dn' dc)) (.cells #[] 48)
    have hA2 := Disk.bel_one (((w8.setCell ⟨w2.heap.size, 0, none⟩ (.slice ea en ec)).setCell ⟨w2.heap.size, 1, none⟩ (.slice da dn' dc)).alloc (.cells #[] 48)) (.cells #[.int .i64 l1, .string l2] 48)
    have hA := bel_after hA1 hA2
    have ownB := own_later ownA hA2
    have g0' := cell_later hA1 g0
    have g1' := cell_later hA1 g1
    have kc0 := cell_later hA TW2.1
    have kc1 := cell_later hA TW2.2
    have kf2 := Disk.frozen_later hA ltP sf1
    have xc0 : ((((w8.setCell ⟨w2.heap.size, 0, none⟩ (.slice ea en ec)).setCell ⟨w2.heap.size, 1, none⟩ (.slice da dn' dc)).alloc (.cells #[] 48)).alloc (.cells #[.int .i64 l1, .string l2] 48)).cell? ⟨w8.heap.size + 1, 0, none⟩ = some (.int .i64 l1) := cell_new _ _ 48 _ (by simp) 0 _ rfl
    have xc1 : ((((w8.setCell ⟨w2.heap.size, 0, none⟩ (.slice ea en ec)).setCell ⟨w2.heap.size, 1, none⟩ (.slice da dn' dc)).alloc (.cells #[] 48)).alloc (.cells #[.int .i64 l1, .string l2] 48)).cell? ⟨w8.heap.size + 1, 1, none⟩ = some (.string l2) := cell_new _ _ 48 _ (by simp) 1 _ rfl
    have HSZ : Hid (((w8.setCell ⟨w2.heap.size, 0, none⟩ (.slice ea en ec)).setCell ⟨w2.heap.size, 1, none⟩ (.slice da dn' dc)).heap.size = w8.heap.size) := hszP
    clear HH hN8 kb0 kb1 kf0 kf1 m0 m1 mf mf0 hs6 hw6 own5 g5 own0 hwk hszP
    go_wp2_with (at_builtin; refine app_write _ rfl _ _ rfl w8.heap.size (.slice (some ⟨w8.heap.size, 0, none⟩) 0 0) 0 [] rfl ownB _ 1 l1 l2 rfl xc0 xc1 (by omega) (by simp; omega) ?_; intro v9 w9 own9 g9; have B29 : Below w2.heap.size w2 w9 := grown_bel (bel_after hb28 hA) g9 (by simp; omega) (fun r e => by simp [Value.ownBlock] at e; omega); obtain ⟨ua, un, uc, rfl⟩ := NO.s1 (ws := [(l1, l2)]) (.inr own9); have m0 := g9.cell kc0 (by simp [Value.ownBlock]; omega); have m1 := g9.cell kc1 (by simp [Value.ownBlock]; omega); have mf : w9.frozen? ⟨w2.heap.size, 1, none⟩ = false := (World.frozen?_of_block (g9.block w2.heap.size (by simp; omega) (by simp [Value.ownBlock]; omega))).trans kf2)
    have hb29 : Below w2.heap.size w2 (w9.setCell ⟨w2.heap.size, 1, none⟩ (.slice ua un uc)) := B29.setCell (p := ⟨w2.heap.size, 1, none⟩) (Nat.le_refl _) _
    have bP9 : Below ((w8.setCell ⟨w2.heap.size, 0, none⟩ (.slice ea en ec)).setCell ⟨w2.heap.size, 1, none⟩ (.slice da dn' dc)).heap.size ((w8.setCell ⟨w2.heap.size, 0, none⟩ (.slice ea en ec)).setCell ⟨w2.heap.size, 1, none⟩ (.slice da dn' dc)) w9 := grown_bel hA g9 (by simp; omega) (fun r e => by rw [HSZ.out]; simp [Value.ownBlock] at e; omega)
    have hs9 := ((hS8.later bP9).store (b := w2.heap.size) (o := 1) (.slice ua un uc) hbs).2.1
    have hw9 : WR (w9.setCell ⟨w2.heap.size, 1, none⟩ (.slice ua un uc)) (.slice ua un uc) (W.drop p) := by
      rw [HDR.out]
      exact (nw_of_owns (ws := [(l1, l2)]) (own_store (o := 1) own9 lt8 (.slice ua un uc))).2.1
    have hb19 := bel_after hb2 hb29
    have hbw9 := bel_after hbw1 hb19
    refine (specCrash_any _ _ _ (doneS ss (W.take p)) (W.drop p) ls tn _ hs9 hw9 (hvl.later hbw9) (by rw [doneS_length]; exact h1) (by rw [HDR.out]; simp) h4).mono ?_
    rintro e w7 ⟨z1, z2, rfl, hN7, hb7⟩
    have hb17 := bel_after hb19 hb7
    have hbw7 := bel_after hbw9 hb7
    obtain ⟨q0, q1, f0, f1⟩ := Res.cut HR1.out hb17
    obtain ⟨za, zn, zc, rfl⟩ := hN7.s1
    obtain ⟨ta, tn', tc, rfl⟩ := hN7.s2
    have hz6 : w.heap.size + 1 < (w9.setCell ⟨w2.heap.size, 1, none⟩ (.slice ua un uc)).heap.size := Nat.lt_of_lt_of_le ltR hb19.size
    have P1 := (NS.store (b := w.heap.size + 1) (o := 0) (B := (w9.setCell ⟨w2.heap.size, 1, none⟩ (.slice ua un uc)).heap.size) ⟨hN7.1, hN7.2.2.1, hN7.2.2.2.2.1⟩ (.slice za zn zc) hz6).store (b := w.heap.size + 1) (o := 1) (.slice ta tn' tc) hz6
    have P4 := (NW.store (b := w.heap.size + 1) (o := 0) (B := (w9.setCell ⟨w2.heap.size, 1, none⟩ (.slice ua un uc)).heap.size) ⟨hN7.2.1, hN7.2.2.2.1, hN7.2.2.2.2.2⟩ (.slice za zn zc) hz6).store (b := w.heap.size + 1) (o := 1) (.slice ta tn' tc) hz6
    have P2 := (hbw7.setCell (p := ⟨w.heap.size + 1, 0, none⟩) (by simp) (.slice za zn zc)).setCell (p := ⟨w.heap.size + 1, 1, none⟩) (by simp) (.slice ta tn' tc)
    clear hN7
    go_wp2
    exact bodyPost_ret (v := .agg #[.slice za zn zc, .slice ta tn' tc]) (by simp [results, Tryz.results18, go_sem, q0, q1]) rfl ⟨_, _, rfl, by rw [E6.out]; exact ND_of (P1.mono (by omega)) (P4.mono (by omega)), P2⟩
end Go.Proofs.YtjclpbaiiklhcaaGreatDoor
