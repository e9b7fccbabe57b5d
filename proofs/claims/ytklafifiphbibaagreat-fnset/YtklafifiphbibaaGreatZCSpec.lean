/- Compact of the model. -/
import Derived.Test.YtklafifiphbibaaGreatZV8
import Derived.Test.YtklafifiphbibaaGreatZMSAdd
import Derived.Test.YtklafifiphbibaaGreatZV2
namespace Go.Proofs.YtklafifiphbibaaGreat
open Go.RowKit

theorem all_own (v : Value) (h : Hp) (w : World) (hv : HR w v h) (hk : okC h = true) :
    Calls Tryz.prog 32 #[v] w fun x w' => (∃ v', x = .returned v' ∧ w'.ownsRow w.heap.size 2 1 v' (obC h).length (icells (ints (obC h)))) ∧ Below w.heap.size w w' :=
  (l5All_any v h w hv).mono fun x w' ⟨⟨l, v', _, e, ho, hp⟩, b⟩ => by
    have q := (c_right hk).1
    have : l = obC h := (hp _ q).eq q
    subst this
    exact ⟨⟨v', e, ho⟩, b⟩
set_option maxHeartbeats 800000 in
theorem specNewHeap_y (w : World) : Calls Tryz.prog 88 #[] w fun e w' => (e = .returned (.agg #[.slice (some ⟨w.heap.size + 1, 0, none⟩) 3200 3200, .slice none 0 0, .int .i64 0, .int .i64 2000, .int .i64 2600, .bool false, .int .i64 1, .slice none 0 0]) ∧ RI w' (w.heap.size + 1) (List.replicate 3200 0) 3200) ∧ Below w.heap.size w w' := by
  have hmk := makeW
  have hr := made_ri (w.alloc (.cells #[.slice (some ⟨w.heap.size + 1, 0, none⟩) 3200 3200, .slice none 0 0, .int .i64 0, .int .i64 2000, .int .i64 2600, .bool false, .int .i64 1, .slice none 0 0] 26)) 3200
  rw [World.size_alloc] at hr
  go_enter Tryz.func88, Tryz.ntmps88
  go_wp2
  exact bodyPost_ret (v := .agg #[.slice (some ⟨w.heap.size + 1, 0, none⟩) 3200 3200, .slice none 0 0, .int .i64 0, .int .i64 2000, .int .i64 2600, .bool false, .int .i64 1, .slice none 0 0]) (by simp [results, Tryz.results88, go_sem]) rfl ⟨⟨rfl, hr⟩, bel_after (bel_one _ _) (bel_one _ _)⟩
def co8 (u0 u1 u2 u6 : Value) : Nat → Value
  | 0 => u0
  | 1 => u1
  | 2 => u2
  | 3 => .int .i64 2000
  | 4 => .int .i64 2600
  | 5 => .bool false
  | 6 => u6
  | 7 => .slice none 0 0
  | _ => undef
/-- What is written while the model compacts: the new words, the answer's box, new rows. -/
structure CQ (B W : World) (gW H : Nat) (rv : Value) (e hs : Int) (V : List Int) : Prop where
  gr : Grew B W (fun b => b = gW ∨ b = H ∨ B.heap.size ≤ b)
  box : W.rowIs H 26 8 (co8 (.slice (some ⟨gW, 0, none⟩) 3200 3200) rv (.int .i64 e) (.int .i64 hs))
  words : RI W gW V 3200
  ne : gW ≠ H
  l1 : gW < B.heap.size
  l2 : H < B.heap.size
theorem CQ.put {B W : World} {gW H : Nat} {rv : Value} {e hs : Int} {V : List Int} (k : CQ B W gW H rv e hs V) (i : Nat) (x : Int) : CQ B (W.setCell ⟨gW, i, none⟩ (.int .i64 x)) gW H rv e hs (V.set i x) := by
  have G := Grew.set W gW i (.int .i64 x)
  exact ⟨k.gr.trans' G (fun b q => .inl (.inl q)), G.row k.box (fun q => k.ne q.symm), k.words.set i x, k.ne, k.l1, k.l2⟩
theorem CQ.rts {B W : World} {gW H : Nat} {rv : Value} {e hs : Int} {V : List Int} (k : CQ B W gW H rv e hs V) (x : Value) : CQ B (W.setCell ⟨H, 1, none⟩ x) gW H x e hs V := by
  have G := Grew.set W H 1 x
  refine ⟨k.gr.trans' G (fun b q => .inl (.inr (.inl q))), (k.box.set 1 _).congr fun i hi => ?_, k.words.setOther k.ne _, k.ne, k.l1, k.l2⟩
  rcases i with _ | _ | _ | _ | _ | _ | _ | _ | i
  all_goals first | rfl | omega
theorem CQ.more {B W W' : World} {gW H : Nat} {rv : Value} {e hs : Int} {V : List Int} (k : CQ B W gW H rv e hs V) {S : Nat → Prop} (G : Grew W W' S) (hS : ∀ b, S b → B.heap.size ≤ b) : CQ B W' gW H rv e hs V := by
  have l1 := k.l1
  have l2 := k.l2
  exact ⟨k.gr.trans' G (fun b q => .inl (.inr (.inr (hS b q)))), G.row k.box (fun q => by have := hS _ q; omega), k.words.block (G.block _ k.words.lt (fun q => by have := hS _ q; omega)), k.ne, l1, l2⟩
theorem own_shape2 {w : World} {B n : Nat} {v : Value} {xs : List Value} (h : w.ownsRow B 2 1 v (n + 1) xs) : ∃ ro c, v = .slice ro (n + 1) c := by
  rcases h.2 with ⟨_, e⟩ | ⟨g, cap, cur, e, _⟩
  · omega
  · exact ⟨_, _, e⟩
theorem co_hn {B gW cR e : Nat} {ro : Option Addr} {w9 : World} {h : Hp} {l went : List Nat} {Z : Nat} (T1 : RI w9 gW (cfS h.words went l l.length) 3200) (T2 : w9.ownsRow Z 2 1 (.slice ro h.roots.length cR) h.roots.length (icells (h.roots.map (cw went)))) (hB : B ≤ gW) (hZ : gW < Z) :
    HM B w9 (.agg #[.slice (some ⟨gW, 0, none⟩) 3200 3200, .slice ro h.roots.length cR, .int .i64 (e : Nat), .int .i64 2000, .int .i64 2600, .bool false, .int .i64 h.hash, .slice none 0 0]) (coH h l went e) := by
  have lw : (cfS h.words went l l.length).length = 3200 := cfS_len _ _ _ _
  have O1 := T1.owns (B := B) hB (by unfold maxLen; omega)
  rw [lw] at O1
  refine HM.of_owns (h := coH h l went e) lw.symm O1 (by simp [coH]) (own_down T2 (by omega)) rfl (nil_owns _ _) (fun b q => ⟨fun e => by have := own_low T2 e; have := own_is q; omega, fun e => by cases e⟩) (fun b q e => by cases e)
theorem ir_cell {w : World} {ao : Option Addr} {n c : Nat} {l : List Int} (h : IR w (.slice ao n c) l) (i : Nat) (hi : i < l.length) : ∃ b o, ao = some ⟨b, o, none⟩ ∧ w.cell? ⟨b, o + i, none⟩ = some (.int .i64 (l.getD i 0)) := by
  obtain ⟨ao', cap, e, _, hc⟩ := h
  simp only [Value.slice.injEq] at e
  obtain ⟨rfl, _, _⟩ := e
  exact hc i hi
theorem own_put' {w : World} {B b i n : Nat} {v u : Value} {xs : List Value} (h : w.ownsRow B 2 1 v n xs) (hb : b < B) : (w.setCell ⟨b, i, none⟩ u).ownsRow B 2 1 v n xs :=
  (Grew.set w b i u).own h (fun q hq e => by have := own_low h hq; omega)
theorem own_stay' {w w' : World} {B b n : Nat} {v : Value} {xs : List Value} (h : w.ownsRow B 2 1 v n xs) (hg : w.grownBy w' (some b)) (hb : b < B) : w'.ownsRow B 2 1 v n xs :=
  (Grew.grown hg).own h (fun q hq e => by have := own_low h hq; injection e; omega)
/-- What Compact of the model answers for a right heap. -/
def CoOut (h : Hp) (l : List Nat) (B : Nat) (e : Ending) (w' : World) : Prop :=
  ∃ i, i = (rcS h i).1.length ∧ ((∃ u, e = .returned (.tuple #[u, .bool false]) ∧ HM B w' u zeroH ∧ 2000 < (gtS h.words (rcS h i).2 l l.length).2) ∨ (∃ u, e = .returned (.tuple #[u, .bool true]) ∧ HM B w' u (coH h l (gtS h.words (rcS h i).2 l l.length).1 (gtS h.words (rcS h i).2 l l.length).2) ∧ (gtS h.words (rcS h i).2 l l.length).2 ≤ 2000))

set_option maxRecDepth 100000 in
set_option maxHeartbeats 6400000 in
theorem specCompact_any (v : Value) (h : Hp) (l : List Nat) (R : RightAt h l) (w : World) (hv : HR w v h) :
    Calls Tryz.prog 92 #[v] w fun e w' => CoOut h l w.heap.size e w' ∧ Below w.heap.size w w' := by
  obtain ⟨ok, ob⟩ := c_yes R
  obtain ⟨v1, v2, v3, rfl, i1, i2, i3⟩ := id hv
  have HL : Hid (h.words.length = 3200) := R.1.1
  obtain ⟨b, o, c1, rfl, hc1, hW⟩ := i1.ws (by have := R.1.1; omega)
  rw [R.1.1] at hc1 hv ⊢
  obtain ⟨a2, c2, rfl, -⟩ := IRs i2
  obtain ⟨a3, c3, rfl, -⟩ := IRs i3
  have S0 := CS.new w (.slice (some ⟨b, o, none⟩) 3200 c1) (.slice a2 h.roots.length c2) (.int .i64 h.old) (.int .i64 h.eden) (.int .i64 h.surv) (.bool h.flip) (.int .i64 h.hash) (.slice a3 h.kept.length c3)
  have hro : h.roots.length ≤ 20 := R.2.2.2.2.2.1
  have hke : h.kept.length ≤ 1000000000000 := by have := kept_short R; omega
  have C := specHeapOk_c _ h _ (hv.later S0.bel) (by omega) hke
  have MV := fun W (hb : Below w.heap.size w W) => l10Moves_any _ h l R W (hv.later hb)
  have AL := fun W (hb : Below w.heap.size w W) => all_own _ h W (hv.later hb) ok
  have NH := fun W => specNewHeap_y W
  rw [ob] at AL
  rw [ok] at C
  have ls := R.1.short
  clear i1 i3 hv ok ob hke
  go_enter Tryz.func92, Tryz.ntmps92
  go_wp2_with fail
  refine C.mono ?_
  rintro e w1 ⟨rfl, hb1⟩
  have S1 := S0.later hb1
  clear C S0 hb1
  obtain ⟨k0, k1, k2, k3, k4, k5, k6, k7⟩ : _ ∧ _ ∧ _ ∧ _ ∧ _ ∧ _ ∧ _ ∧ _ := ⟨S1.c0, S1.c1, S1.c2, S1.c3, S1.c4, S1.c5, S1.c6, S1.c7⟩
  go_wp2_with fail
  refine (MV w1 S1.bel).mono ?_
  rintro e w2 ⟨⟨gT, ix, rfl, gT0, ei, GTT, RT⟩, hb2⟩
  have ei' : Hid (ix = (rcS h ix).1.length) := ei
  have S2 := S1.later hb2
  have lt1 : w.heap.size + 1 < w1.heap.size := S1.lt
  clear ei MV S1 hb2 k0 k1 k2 k3 k4 k5 k6 k7
  generalize hsn : (rcS h ix).2 = sn at *
  generalize hgt : gtS h.words sn l l.length = s at *
  have top : s.2 ≤ 204800 := by have := GTT.top; omega
  by_cases hend : 2000 < s.2
  · have hei : (2000 : Int) < (s.2 : Int) := by omega
    have O9 : Hid (∀ w', CoOut h l w.heap.size (.returned (.tuple #[.agg #[.slice none 0 0, .slice none 0 0, .int .i64 0, .int .i64 0, .int .i64 0, .bool false, .int .i64 0, .slice none 0 0], .bool false])) w') := fun w' => ⟨ix, ei'.out, .inl ⟨_, rfl, zero_hm _ _, by rw [hsn, hgt]; exact hend⟩⟩
    clear AL NH GTT RT hW i2 R hsn hgt
    obtain ⟨fk, K⟩ := S2.res
    have fR := fun i => K.frozen i
    have r0 := K.cell (i := 0) (by omega)
    have r1 := K.cell (i := 1) (by omega)
    have r2 := K.cell (i := 2) (by omega)
    have r3 := K.cell (i := 3) (by omega)
    have r4 := K.cell (i := 4) (by omega)
    have r5 := K.cell (i := 5) (by omega)
    have r6 := K.cell (i := 6) (by omega)
    have r7 := K.cell (i := 7) (by omega)
    have ltR := K.lt
    have B9 : Below w.heap.size w ((((((((w2.setCell ⟨w.heap.size + 1, 0, none⟩ (.slice none 0 0)).setCell ⟨w.heap.size + 1, 1, none⟩ (.slice none 0 0)).setCell ⟨w.heap.size + 1, 2, none⟩ (.int .i64 0)).setCell ⟨w.heap.size + 1, 3, none⟩ (.int .i64 0)).setCell ⟨w.heap.size + 1, 4, none⟩ (.int .i64 0)).setCell ⟨w.heap.size + 1, 5, none⟩ (.bool false)).setCell ⟨w.heap.size + 1, 6, none⟩ (.int .i64 0)).setCell ⟨w.heap.size + 1, 7, none⟩ (.slice none 0 0)) := by
      repeat (refine Below.setCell ?_ (p := ⟨w.heap.size + 1, _, none⟩) (Nat.le_succ _) _)
      exact S2.bel
    clear K S2
    go_wp2
    exact bodyPost_ret (v := .tuple #[.agg #[.slice none 0 0, .slice none 0 0, .int .i64 0, .int .i64 0, .int .i64 0, .bool false, .int .i64 0, .slice none 0 0], .bool false]) (by simp [results, Tryz.results92, go_sem, r0, r1, r2, r3, r4, r5, r6, r7]) rfl ⟨O9.out _, B9⟩
  · have hei : ¬ (2000 : Int) < (s.2 : Int) := by omega
    have hen : s.2 ≤ 2000 := by omega
    obtain ⟨y0, y1, y2, y3, y4, y5, y6, y7⟩ : _ ∧ _ ∧ _ ∧ _ ∧ _ ∧ _ ∧ _ ∧ _ := ⟨S2.c0, S2.c1, S2.c2, S2.c3, S2.c4, S2.c5, S2.c6, S2.c7⟩
    go_wp2_with fail
    refine (NH w2).mono ?_
    rintro e w3 ⟨⟨rfl, RW0⟩, hb3⟩
    have S3 := S2.later hb3
    have RT3 := RT.later hb3
    have ltT : gT < w2.heap.size := RT.lt
    clear NH RT S2 y0 y1 y2 y3 y4 y5 y6 y7
    obtain ⟨y0, y1, y2, y3, y4, y5, y6, y7⟩ : _ ∧ _ ∧ _ ∧ _ ∧ _ ∧ _ ∧ _ ∧ _ := ⟨S3.c0, S3.c1, S3.c2, S3.c3, S3.c4, S3.c5, S3.c6, S3.c7⟩
    have lw3 : w.heap.size < w3.heap.size := World.block_lt_of_cell? _ _ y0
    have al := bel_one w3 (.cells #[.slice (some ⟨w2.heap.size + 1, 0, none⟩) 3200 3200, .slice none 0 0, .int .i64 (s.2 : Nat), .int .i64 2000, .int .i64 2600, .bool false, .int .i64 h.hash, .slice none 0 0] 26)
    have S4 := S3.later al
    have RB := row_any w3 #[.slice (some ⟨w2.heap.size + 1, 0, none⟩) 3200 3200, .slice none 0 0, .int .i64 (s.2 : Nat), .int .i64 2000, .int .i64 2600, .bool false, .int .i64 h.hash, .slice none 0 0] 26
    have RW1 := RW0.later al
    have RT4 := RT3.later al
    have ltW : w2.heap.size + 1 < w3.heap.size := RW0.lt
    have AL4 := AL _ S4.bel
    have x0 := S4.c0; have x1 := S4.c1; have x2 := S4.c2; have x3 := S4.c3; have x4 := S4.c4; have x5 := S4.c5; have x6 := S4.c6; have x7 := S4.c7
    clear RW0 RT3 AL S3
    go_wp2_with fail
    refine AL4.mono ?_
    rintro e w4 ⟨⟨lv, rfl, OL⟩, hb4⟩
    have S5 := S4.later hb4
    have RT5 := RT4.later hb4
    have lt4 : w3.heap.size < w4.heap.size := by have := hb4.size; simp at this; omega
    have Q0 : CQ w4 w4 (w2.heap.size + 1) w3.heap.size (.slice none 0 0) (s.2 : Nat) h.hash (List.replicate 3200 0) :=
      ⟨Grew.refl _ _, (RB.of_block (hb4.block _ RB.lt)).congr (fun i hi => by rcases i with _ | _ | _ | _ | _ | _ | _ | _ | i <;> first | rfl | (simp at hi; omega)), RW1.later hb4, by omega, by omega, lt4⟩
    have lo : ∀ q, lv.ownBlock = some q → w3.heap.size < q := fun q hq => by have := own_low OL hq; simp at this; omega
    obtain ⟨la, lc, rfl, hlc⟩ := intsI (IR_of_owns' OL)
    have hlb : Hid (∀ k, k < l.length → ∃ lb p, la = some ⟨lb, p, none⟩ ∧ w4.cell? ⟨lb, p + k, none⟩ = some (.int .i64 ((l.getD k 0 : Nat) : Int)) ∧ w3.heap.size < lb) := fun k hk => by
      obtain ⟨lb, p, rfl, cc⟩ := hlc k hk
      exact ⟨lb, p, rfl, cc, lo lb rfl⟩
    have hWS := hW.later S5.bel
    have lb0 : b < w.heap.size := World.block_lt_of_cell? _ _ (hW 0 (by rw [HL.out]; omega))
    have I5 := i2.later S5.bel
    have lr0 : ∀ q, (∃ p, a2 = some ⟨q, p, none⟩) → 0 < h.roots.length → q < w.heap.size := fun q ⟨p, e⟩ hp => by
      subst e
      exact i2.lt _ _ _ rfl hp
    have len1 : Hid (s.1.length = 3200) := GTT.len
    have tW : gT < w2.heap.size + 1 := by omega
    have ww : w.heap.size + 1 < gT := by omega
    clear ltT RB RW1 RT4 al AL4 S4 hb4 hlc OL lo hW hb3 i2 x0 x1 x2 x3 x4 x5 x6 x7 y0 y1 y2 y3 y4 y5 y6 y7
    generalize w2.heap.size + 1 = gW at *
    generalize w3.heap.size = H at *
    have nS : ∀ q, q < w.heap.size + 2 → ¬ (q = gW ∨ q = H ∨ w4.heap.size ≤ q) := fun q hq k => by omega
    have nT : ¬ (gT = gW ∨ gT = H ∨ w4.heap.size ≤ gT) := by omega
    obtain ⟨z0, z1⟩ : _ ∧ _ := ⟨S5.c0, S5.c1⟩
    go_wp2
    go_loopw [8] (fun iv wr => ∃ k : Nat, k ≤ l.length ∧ iv = .int .i64 k ∧ CQ w4 wr gW H (.slice none 0 0) (s.2 : Nat) h.hash (cfS h.words s.1 l k)) (fun iv _ => l.length - (intOf iv).toNat)
    case atStart => exact ⟨0, Nat.zero_le _, rfl, Q0⟩
    case round =>
      obtain ⟨k, hk, rfl, Q⟩ := hrel
      clear Q0
      by_cases hlt : k < l.length
      · obtain ⟨lb, p, rfl, cl, llb⟩ := hlb.out k hlt
        have ha := get_mem l k hlt
        have EE : Hid (cfS h.words s.1 l (k + 1) = if s.1.getD (l.getD k 0) 0 = 0 then cfS h.words s.1 l k else cf h.words s.1 (cfS h.words s.1 l k) (l.getD k 0) (s.1.getD (l.getD k 0) 0 - 1) (4 + (gw h.words (l.getD k 0)).toNat)) := (rfl : cfS h.words s.1 l (k + 1) = _)
        have AT := GTT.at_ k hlt
        have ltlb : lb < w4.heap.size := World.block_lt_of_cell? _ _ cl
        have cl2 := Q.gr.cell cl (by omega)
        have ltk : (k : Int) < (l.length : Int) := by omega
        generalize l.getD k 0 = a at *
        obtain ⟨o1, o2, o3⟩ := R.1.obj ha
        have sz := size_of o3
        obtain ⟨m, hm⟩ := Int.eq_ofNat_of_zero_le sz.1
        have m60 : m ≤ 60 := by omega
        have hmn : (gw h.words a).toNat = m := by rw [hm]; rfl
        have hnx : nx h.words a = a + 4 + m := by unfold nx; rw [hmn]
        rw [hnx] at o2
        rw [hmn] at EE AT
        have lta : (a : Int) < 3200 := by omega
        have cT := Q.gr.cell (RT5.cell (i := a) (by rw [ints_length, len1.out]; omega)) nT
        rw [ints_get _ _ (by rw [len1.out]; omega)] at cT
        have ltop := GTT.le a
        generalize hto : s.1.getD a 0 = tq at *
        by_cases h0 : tq = 0
        · have EE' : Hid (cfS h.words s.1 l (k + 1) = cfS h.words s.1 l k) := (by rw [EE.out, if_pos h0] : cfS h.words s.1 l (k + 1) = cfS h.words s.1 l k)
          subst h0
          have w0 : (((0 : Nat) : Int) == 0) = true := rfl
          clear EE AT hm hmn hnx o3 sz ha R GTT RT5 I5 hWS
          go_wp2
          exact ⟨⟨k + 1, by omega, by go_num, by rw [EE'.out]; exact Q⟩, by simp [intOf]; omega⟩
        · have EE' : Hid (cfS h.words s.1 l (k + 1) = cf h.words s.1 (cfS h.words s.1 l k) a (tq - 1) (4 + m)) := (by rw [EE.out, if_neg h0] : cfS h.words s.1 l (k + 1) = _)
          have AT' := AT.resolve_left h0
          obtain ⟨d, rfl⟩ : ∃ d, tq = d + 1 := ⟨tq - 1, by omega⟩
          rw [Nat.add_sub_cancel] at EE'
          have w0 : ((((d + 1 : Nat) : Int)) == 0) = false := by simp; omega
          have ca := Q.gr.cell (hWS a (by rw [HL.out]; omega)) (nS b (by omega))
          rw [hm] at ca
          have z0' := Q.gr.cell z0 (nS _ (by omega))
          have d2 : d + 4 + m ≤ 2000 := by omega
          clear EE AT h0
          generalize hV : cfS h.words s.1 l k = V at *
          have lV : V.length = 3200 := by rw [← hV]; exact cfS_len _ _ _ _
          clear hV
          go_wp2
          go_loopw [11] (fun jv wr2 => ∃ j : Nat, j ≤ 4 + m ∧ jv = .int .i64 j ∧ CQ w4 wr2 gW H (.slice none 0 0) (s.2 : Nat) h.hash (cf h.words s.1 V a d j)) (fun jv _ => 4 + m - (intOf jv).toNat)
          case atStart => exact ⟨0, Nat.zero_le _, rfl, Q⟩
          case round =>
            obtain ⟨j, hj, rfl, Q2⟩ := hrel
            have z0' := Q2.gr.cell z0 (nS _ (by omega))
            have ca := Q2.gr.cell (hWS a (by rw [HL.out]; omega)) (nS b (by omega))
            rw [hm] at ca
            by_cases hjm : j < 4 + m
            · have cx := Q2.gr.cell (hWS (a + j) (by rw [HL.out]; omega)) (nS b (by omega))
              have bx0 : wr.cell? ⟨H, 0, none⟩ = some (.slice (some ⟨gW, 0, none⟩) 3200 3200) := Q2.box.cell (i := 0) (by omega)
              have EF : Hid (cf h.words s.1 V a d (j + 1) = (cf h.words s.1 V a d j).set (d + j) (if 4 ≤ j then cw s.1 (gw h.words (a + j)) else gw h.words (a + j))) := (rfl : cf h.words s.1 V a d (j + 1) = _)
              have lC : (cf h.words s.1 V a d j).length = 3200 := by rw [cf_len]; exact lV
              have cw2 := Q2.words.cell (i := d + j) (by rw [lC]; omega)
              have fw2 := Q2.words.frozen (d + j)
              have QP := fun x => Q2.put (d + j) x
              have jI : (j : Int) < 4 + (m : Int) := by omega
              have ltd : ((d : Int) + j) < 3200 := by omega
              have lta2 : ((a : Int) + j) < 3200 := by omega
              by_cases h4 : 4 ≤ j
              · have h4i : (4 : Int) ≤ (j : Int) := by omega
                have ff := R.2.2.2.2.2.2.2.1 a ha (a + j) (by omega) (by rw [hnx]; omega)
                rw [if_pos h4] at EF
                generalize gw h.words (a + j) = x at *
                by_cases he : x % 2 = 0
                · have tm : (x.tmod 2 != 0) = false := by
                    have q := tmod_two x
                    rw [decide_eq_true he] at q
                    simp only [bne, q]
                    rfl
                  have cwx : cw s.1 x = x := by unfold cw; rw [if_pos he]
                  rw [cwx] at EF
                  have QX : Hid (CQ w4 (wr.setCell ⟨gW, d + j, none⟩ (.int .i64 x)) gW H (.slice none 0 0) (s.2 : Nat) h.hash (cf h.words s.1 V a d (j + 1))) := (by rw [EF.out]; exact QP x : CQ w4 _ gW H (.slice none 0 0) (s.2 : Nat) h.hash (cf h.words s.1 V a d (j + 1)))
                  clear EF QP Q2 cwx he ff R GTT RT5 I5 hWS hm hmn hnx o3 sz ha lC
                  go_wp2
                  exact ⟨⟨j + 1, by omega, by go_num, QX.out⟩, by simp [intOf]; omega⟩
                · obtain ⟨c, hc, e1, e2, e3⟩ := odd_obj ff he
                  have tm : (x.tmod 2 != 0) = true := by
                    have q := tmod_two x
                    rw [decide_eq_false he] at q
                    simp only [bne, q]
                    rfl
                  obtain ⟨p1, p2, p3⟩ := R.1.obj hc
                  have cc := Q2.gr.cell (RT5.cell (i := c) (by rw [ints_length, len1.out]; omega)) nT
                  rw [ints_get _ _ (by rw [len1.out]; omega)] at cc
                  have lec := GTT.le c
                  have ltc : (c : Int) < 3200 := by omega
                  have cwx : cw s.1 x = 2 * (((s.1.getD c 0 : Nat) : Int) - 1) + 1 := by unfold cw; rw [if_neg he, e1, Int.toNat_natCast]
                  rw [cwx] at EF
                  generalize s.1.getD c 0 = y at *
                  have ley : (y : Int) ≤ 2001 := by omega
                  have QX : Hid (CQ w4 (wr.setCell ⟨gW, d + j, none⟩ (.int .i64 (2 * ((y : Int) - 1) + 1))) gW H (.slice none 0 0) (s.2 : Nat) h.hash (cf h.words s.1 V a d (j + 1))) := (by rw [EF.out]; exact QP _ : CQ w4 _ gW H (.slice none 0 0) (s.2 : Nat) h.hash (cf h.words s.1 V a d (j + 1)))
                  clear EF QP Q2 cwx he ff R GTT RT5 I5 hWS hm hmn hnx o3 sz ha lC e1 e3 hc p3
                  go_wp2
                  exact ⟨⟨j + 1, by omega, by go_num, QX.out⟩, by simp [intOf]; omega⟩
              · have h4i : ¬ (4 : Int) ≤ (j : Int) := by omega
                rw [if_neg h4] at EF
                generalize gw h.words (a + j) = x at *
                have QX : Hid (CQ w4 (wr.setCell ⟨gW, d + j, none⟩ (.int .i64 x)) gW H (.slice none 0 0) (s.2 : Nat) h.hash (cf h.words s.1 V a d (j + 1))) := (by rw [EF.out]; exact QP x : CQ w4 _ gW H (.slice none 0 0) (s.2 : Nat) h.hash (cf h.words s.1 V a d (j + 1)))
                clear EF QP Q2 R GTT RT5 I5 hWS hm hmn hnx o3 sz ha lC
                go_wp2
                exact ⟨⟨j + 1, by omega, by go_num, QX.out⟩, by simp [intOf]; omega⟩
            · obtain rfl : j = 4 + m := by omega
              have jI : ¬ (((4 + m : Nat) : Int)) < 4 + (m : Int) := by omega
              have QX : Hid (CQ w4 wr gW H (.slice none 0 0) (s.2 : Nat) h.hash (cfS h.words s.1 l (k + 1))) := (by rw [EE'.out]; exact Q2 : CQ w4 wr gW H (.slice none 0 0) (s.2 : Nat) h.hash (cfS h.words s.1 l (k + 1)))
              clear Q2 R GTT RT5 I5 hWS hm hmn hnx o3 sz ha EE'
              go_wp2
              exact ⟨⟨k + 1, by omega, by go_num, QX.out⟩, by simp [intOf]; omega⟩
      · obtain rfl : k = l.length := by omega
        have QR : ∃ (ro : Option Addr) (cR : Nat), CQ w4 wr gW H (.slice ro 0 cR) (s.2 : Nat) h.hash (cfS h.words s.1 l l.length) ∧ wr.ownsRow w4.heap.size 2 1 (.slice ro 0 cR) 0 (icells ((h.roots.map (cw s.1)).take 0)) := ⟨none, 0, Q, ⟨by simp [icells], .inl ⟨rfl, rfl⟩⟩⟩
        have z1' := Q.gr.cell z1 (nS _ (by omega))
        clear hlb hWS Q hk hlt
        go_wp2
        go_loopw [13] (fun iv wr => ∃ j : Nat, j ≤ h.roots.length ∧ iv = .int .i64 j ∧ ∃ (ro : Option Addr) (cR : Nat), CQ w4 wr gW H (.slice ro j cR) (s.2 : Nat) h.hash (cfS h.words s.1 l l.length) ∧ wr.ownsRow w4.heap.size 2 1 (.slice ro j cR) j (icells ((h.roots.map (cw s.1)).take j))) (fun iv _ => h.roots.length - (intOf iv).toNat)
        case atStart => exact ⟨0, Nat.zero_le _, rfl, QR⟩
        case round =>
          clear QR z1'
          obtain ⟨j, hj, rfl, ro, cR, Q, OW⟩ := hrel
          have z1' := Q.gr.cell z1 (nS _ (by omega))
          have ltH : H < wr.heap.size := Q.box.lt
          have sz4 := Q.gr.size
          by_cases hjl : j < h.roots.length
          · have hji : (j : Int) < (h.roots.length : Int) := by omega
            obtain ⟨fb, fp, rfl, cf0⟩ := ir_cell I5 j hjl
            have lfb := lr0 fb ⟨fp, rfl⟩ (by omega)
            have cf1 := Q.gr.cell cf0 (nS fb (by omega))
            have ff := R.2.2.2.2.2.2.1 (h.roots.getD j 0) (by simp [hjl])
            have TS : Hid ((h.roots.map (cw s.1)).take (j + 1) = (h.roots.map (cw s.1)).take j ++ [cw s.1 (h.roots.getD j 0)]) := (by rw [take_snoc' _ j 0 (by rw [List.length_map]; exact hjl)]; simp [hjl] : (h.roots.map (cw s.1)).take (j + 1) = (h.roots.map (cw s.1)).take j ++ [cw s.1 (h.roots.getD j 0)])
            have hb1 : wr.cell? ⟨H, 1, none⟩ = some (.slice ro j cR) := Q.box.cell (i := 1) (by omega)
            have fzH := fun i => Q.box.frozen i
            have hc1 : ∀ (W : World) (y : Int), (W.alloc (.cells #[.int .i64 y] 2)).cell? ⟨W.heap.size, 0, none⟩ = some (.int .i64 y) := fun W y => by simp
            have FIN : Hid (∀ (y : Int) (v' : Value) (w' : World), cw s.1 (h.roots.getD j 0) = y → w'.ownsRow w4.heap.size 2 1 v' (j + 1) (icells ((h.roots.map (cw s.1)).take j) ++ [.int .i64 y]) → (wr.alloc (.cells #[.int .i64 y] 2)).grownBy w' (Value.slice ro j cR).ownBlock →
                CQ w4 w' gW H (.slice ro j cR) (s.2 : Nat) h.hash (cfS h.words s.1 l l.length) ∧ w'.ownsRow w4.heap.size 2 1 v' (j + 1) (icells ((h.roots.map (cw s.1)).take (j + 1)))) := fun y v' w' e ow gr => by
              subst e
              refine ⟨(Q.more (Grew.new (bel_one wr _) (fun k => w4.heap.size ≤ k)) (fun b q => q)).more (Grew.grown gr) (fun b q => own_low OW q), by rw [TS.out]; simpa [icells] using ow⟩
            generalize hx : h.roots.getD j 0 = x at *
            have OW1 := fun y => own_later OW (bel_one wr (.cells #[.int .i64 y] 2))
            have hB1 : ∀ y : Int, w4.heap.size ≤ (wr.alloc (.cells #[.int .i64 y] 2)).heap.size := fun y => by simp; omega
            clear hx TS cf0
            by_cases he : x % 2 = 0
            · have tm : (x.tmod 2 != 0) = false := by
                have q := tmod_two x
                rw [decide_eq_true he] at q
                simp only [bne, q]
                rfl
              have cwx : Hid (cw s.1 x = x) := (by unfold cw; rw [if_pos he] : cw s.1 x = x)
              have W1 := OW1 x
              have W2 := hB1 x
              clear he ff R GTT RT5 I5 OW1 hB1 Q OW S5
              go_wp2_with (at_builtin; refine app_int _ rfl _ _ rfl w4.heap.size _ j _ rfl W1 _ 1 x rfl (hc1 _ _) (by omega) W2 ?_; intro v5 w5 ow5 gr5; have FF := FIN.out x v5 w5 cwx.out ow5 gr5; obtain ⟨ro', cR', rfl⟩ := own_shape2 FF.2; have b1' : w5.cell? ⟨H, 1, none⟩ = some (.slice ro j cR) := FF.1.box.cell (i := 1) (by omega); have fz' := fun i => FF.1.box.frozen i)
              exact ⟨⟨j + 1, by omega, by go_num, ro', cR', FF.1.rts _, own_put' FF.2 FF.1.l2⟩, by simp [intOf]; omega⟩
            · obtain ⟨c, hc, e1, e2, e3⟩ := odd_obj ff he
              have tm : (x.tmod 2 != 0) = true := by
                have q := tmod_two x
                rw [decide_eq_false he] at q
                simp only [bne, q]
                rfl
              obtain ⟨p1, p2, p3⟩ := R.1.obj hc
              have cc := Q.gr.cell (RT5.cell (i := c) (by rw [ints_length, len1.out]; omega)) nT
              rw [ints_get _ _ (by rw [len1.out]; omega)] at cc
              have lec := GTT.le c
              have ltc : (c : Int) < 3200 := by omega
              have cwx : Hid (cw s.1 x = 2 * (((s.1.getD c 0 : Nat) : Int) - 1) + 1) := (by unfold cw; rw [if_neg he, e1, Int.toNat_natCast] : cw s.1 x = 2 * (((s.1.getD c 0 : Nat) : Int) - 1) + 1)
              generalize s.1.getD c 0 = y at *
              have ley : (y : Int) ≤ 2001 := by omega
              have W1 := OW1 (2 * ((y : Int) - 1) + 1)
              have W2 := hB1 (2 * ((y : Int) - 1) + 1)
              clear he ff R GTT RT5 I5 OW1 hB1 Q OW S5 e1 e3 hc p3
              go_wp2_with (at_builtin; refine app_int _ rfl _ _ rfl w4.heap.size _ j _ rfl W1 _ 1 (2 * ((y : Int) - 1) + 1) rfl (hc1 _ _) (by omega) W2 ?_; intro v5 w5 ow5 gr5; have FF := FIN.out (2 * ((y : Int) - 1) + 1) v5 w5 cwx.out ow5 gr5; obtain ⟨ro', cR', rfl⟩ := own_shape2 FF.2; have b1' : w5.cell? ⟨H, 1, none⟩ = some (.slice ro j cR) := FF.1.box.cell (i := 1) (by omega); have fz' := fun i => FF.1.box.frozen i)
              exact ⟨⟨j + 1, by omega, by go_num, ro', cR', FF.1.rts _, own_put' FF.2 FF.1.l2⟩, by simp [intOf]; omega⟩
          · obtain rfl : j = h.roots.length := by omega
            rw [List.take_of_length_le (by rw [List.length_map]; omega)] at OW
            have bx := Q.box
            obtain ⟨f5, F5⟩ := S5.res
            have KX := Q.gr.row F5 (nS _ (by omega))
            have OKC : (#[.slice (some ⟨gW, 0, none⟩) 3200 3200, .slice ro h.roots.length cR, .int .i64 (s.2 : Nat), .int .i64 2000, .int .i64 2600, .bool false, .int .i64 h.hash, .slice none 0 0] : Array Value).all (·.oneCell') = true := by simp [Value.oneCell']
            have h0 : wr.cell? ⟨H, 0, none⟩ = some (.slice (some ⟨gW, 0, none⟩) 3200 3200) := bx.cell (i := 0) (by omega)
            have h1 : wr.cell? ⟨H, 1, none⟩ = some (.slice ro h.roots.length cR) := bx.cell (i := 1) (by omega)
            have h2 : wr.cell? ⟨H, 2, none⟩ = some (.int .i64 (s.2 : Nat)) := bx.cell (i := 2) (by omega)
            have h3 : wr.cell? ⟨H, 3, none⟩ = some (.int .i64 2000) := bx.cell (i := 3) (by omega)
            have h4 : wr.cell? ⟨H, 4, none⟩ = some (.int .i64 2600) := bx.cell (i := 4) (by omega)
            have h5 : wr.cell? ⟨H, 5, none⟩ = some (.bool false) := bx.cell (i := 5) (by omega)
            have h6 : wr.cell? ⟨H, 6, none⟩ = some (.int .i64 h.hash) := bx.cell (i := 6) (by omega)
            have h7 : wr.cell? ⟨H, 7, none⟩ = some (.slice none 0 0) := bx.cell (i := 7) (by omega)
            have BW : Below w.heap.size w wr := S5.bel.trans (Q.gr.below S5.bel.size (fun q _ k => by omega))
            have O9 : Hid (∀ w9, wr.grownBy w9 (some (w.heap.size + 1)) → CoOut h l w.heap.size (.returned (.tuple #[.agg #[.slice (some ⟨gW, 0, none⟩) 3200 3200, .slice ro h.roots.length cR, .int .i64 (s.2 : Nat), .int .i64 2000, .int .i64 2600, .bool false, .int .i64 h.hash, .slice none 0 0], .bool true])) w9) := fun w9 G9 => by
              refine ⟨ix, ei'.out, .inr ⟨_, rfl, ?_, by rw [hsn, hgt]; exact hen⟩⟩
              rw [hsn, hgt]
              exact co_hn (Q.words.grown G9 (by simp <;> omega)) (own_stay' OW G9 (by omega)) (by omega) Q.l1
            have lw9 : w.heap.size + 1 < wr.heap.size := KX.lt
            clear R GTT RT5 I5 Q OW S5 hsn hgt
            go_wp2_with ((with_reducible refine store_box _ ?_ (.tmp 2) (.tmp 123) 26 ?_ 26 (w.heap.size + 1) 8 #[.slice (some ⟨gW, 0, none⟩) 3200 3200, .slice ro h.roots.length cR, .int .i64 (s.2 : Nat), .int .i64 2000, .int .i64 2600, .bool false, .int .i64 h.hash, .slice none 0 0] f5 ?_ ?_ KX ?_ ?_ OKC ?_); rfl; rfl; rfl; rfl; rfl; kernel_rfl; intro w9 K9 G9; have r0 : w9.cell? ⟨w.heap.size + 1, 0, none⟩ = some (.slice (some ⟨gW, 0, none⟩) 3200 3200) := K9.cell (i := 0) (by omega); have r1 : w9.cell? ⟨w.heap.size + 1, 1, none⟩ = some (.slice ro h.roots.length cR) := K9.cell (i := 1) (by omega); have r2 : w9.cell? ⟨w.heap.size + 1, 2, none⟩ = some (.int .i64 (s.2 : Nat)) := K9.cell (i := 2) (by omega); have r3 : w9.cell? ⟨w.heap.size + 1, 3, none⟩ = some (.int .i64 2000) := K9.cell (i := 3) (by omega); have r4 : w9.cell? ⟨w.heap.size + 1, 4, none⟩ = some (.int .i64 2600) := K9.cell (i := 4) (by omega); have r5 : w9.cell? ⟨w.heap.size + 1, 5, none⟩ = some (.bool false) := K9.cell (i := 5) (by omega); have r6 : w9.cell? ⟨w.heap.size + 1, 6, none⟩ = some (.int .i64 h.hash) := K9.cell (i := 6) (by omega); have r7 : w9.cell? ⟨w.heap.size + 1, 7, none⟩ = some (.slice none 0 0) := K9.cell (i := 7) (by omega))
            have B9 : Below w.heap.size w w9 := Below.grown BW G9 BW.size (fun k hk => by cases hk; omega)
            exact bodyPost_ret (v := .tuple #[.agg #[.slice (some ⟨gW, 0, none⟩) 3200 3200, .slice ro h.roots.length cR, .int .i64 (s.2 : Nat), .int .i64 2000, .int .i64 2600, .bool false, .int .i64 h.hash, .slice none 0 0], .bool true]) (by simp [results, Tryz.results92, go_sem, r0, r1, r2, r3, r4, r5, r6, r7]) rfl ⟨O9.out _ G9, B9⟩

end Go.Proofs.YtklafifiphbibaaGreat
