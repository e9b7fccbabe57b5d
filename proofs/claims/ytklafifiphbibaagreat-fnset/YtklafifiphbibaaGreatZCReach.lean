/- What is reached, in the model: l10Reached. -/
import Derived.Test.YtklafifiphbibaaGreatZV6
import Derived.Test.YtklafifiphbibaaGreatZHSpecO
import Derived.Test.YtklafifiphbibaaGreatZV7
namespace Go.Proofs.YtklafifiphbibaaGreat
open Go.RowKit

theorem exec_appI {o : Oper} {a : Act} {w w' : World} {u : Value} (s x : Operand) (ho : o.op = .call { callee := .builtin .append, args := #[s, x], argTypes := #[24, 24] }) (v y : Value) (hs : a.eval s = v) (hx : a.eval x = y)
    (hr : (Builtin.append_ #[24, 24] o.type #[v, y]).run Tryz.prog w = .ok u w') : (execOp a.eval o).run Tryz.prog w = .ok (.value u) w' := by
  unfold execOp
  simp only [ho, resolve, invoke, builtin, Sem.run_bind, Sem.run_pure, Result.andThen_ok, List.map_toArray, List.map_cons, List.map_nil, hs, hx, hr]
/-- append of whatever numbers to a row of the call's own, as a run. -/
theorem run_app_ri (w : World) (ty : TypeId) (g cap n : Nat) (m : List Int) (hm : n = m.length) (hR : RI w g m cap) (hmm : m.length ≤ 1000000000000) (hcap : cap ≤ maxLen)
    (sp : Option Addr) (sc k : Nat) (l : List Int) (hk : k = l.length) (hI : IR w (.slice sp k sc) l) (hl : l.length ≤ 1000000000000) :
    ∃ g' c' w', (Builtin.append_ #[24, 24] ty #[.slice (some ⟨g, 0, none⟩) n cap, .slice sp k sc]).run Tryz.prog w = .ok (.slice (some ⟨g', 0, none⟩) (n + k) c') w' ∧ RI w' g' (m ++ l) c' ∧ w.grownBy w' (some g) ∧ (g' = g ∨ (g' = w.heap.size ∧ w.heap.size < w'.heap.size)) ∧ c' ≤ maxLen := by
  subst hm
  subst hk
  by_cases h0 : l.length = 0
  · obtain rfl : l = [] := List.eq_nil_of_length_eq_zero h0
    exact ⟨g, cap, w, run_append_zero ty g cap m.length sc sp hR.le w, by rw [List.append_nil]; exact hR, ⟨rfl, rfl, rfl, Nat.le_refl _, fun _ _ _ => rfl⟩, .inl rfl, hcap⟩
  · obtain ⟨i, hi, hzz⟩ := Option.map_eq_some_iff.1 Tryz.infoI
    simp only [Prod.mk.injEq] at hzz
    obtain ⟨hz, hsz, hby⟩ := hzz
    obtain ⟨ao, cp, e1, _, hc⟩ := hI
    simp only [Value.slice.injEq, true_and] at e1
    obtain ⟨rfl, rfl⟩ := e1
    obtain ⟨b, q, rfl, _⟩ := hc 0 (by omega)
    have hle := hR.le
    obtain ⟨v', w', run, h1, h2, h3, h4⟩ := run_append_own_at (P := Tryz.prog) w 0 24 ty 2 i _ 1 8 Tryz.underlying24 hi hz hsz hby rfl (by omega) _ m.length (icells m) (hR.owns (Nat.zero_le _) hcap) ⟨b, q, none⟩ l.length sc (icells l) (by simp [icells]) (fun j u hj => by
      have hj' : j < l.length := by
        rcases Nat.lt_or_ge j l.length with k | k
        · exact k
        · rw [List.getElem?_eq_none (by rw [icells_length]; exact k)] at hj; cases hj
      obtain ⟨b', q', e2, hcell⟩ := hc j hj'
      simp only [Option.some.injEq, Addr.mk.injEq, and_true] at e2
      obtain ⟨rfl, rfl⟩ := e2
      have hu : u = .int .i64 (l.getD j 0) := by
        simp [icells, hj'] at hj
        rw [← hj]
        simp [hj']
      rw [hu, ← hcell]
      unfold Addr.add
      split
      · subst j; rfl
      · simp) (fun u hu => by
      obtain ⟨z, _, rfl⟩ := List.mem_map.1 hu
      rfl) (by unfold maxLen; omega) (by omega) (Nat.zero_le _)
    have e3 : icells m ++ icells l = icells (m ++ l) := by simp [icells]
    have e4 : m.length + l.length = (m ++ l).length := by simp
    rw [e3, e4] at h1
    obtain ⟨g', c', rfl⟩ : ∃ g' c', v' = .slice (some ⟨g', 0, none⟩) (m ++ l).length c' := by
      rcases h1.2 with ⟨_, e⟩ | ⟨g', c', cur, e, _⟩
      · rw [← e4] at e; omega
      · exact ⟨g', c', e⟩
    have hn := (RI.of_owns h1).1
    rw [← e4] at run
    refine ⟨g', c', w', run, hn, h2, ?_, (RI.of_owns h1).2.2⟩
    rcases h4 with e | e
    · left; simpa [Value.ownBlock] using e
    · right
      have e' : g' = w.heap.size := by simpa [Value.ownBlock] using e
      exact ⟨e', by have := hn.lt; omega⟩
/-- The tour of what is reached, under way. -/
structure RW (w W : World) (a1 : Option Addr) (c1 g cap : Nat) (s : List Int × List Bool) : Prop where
  bel : Below w.heap.size w W
  c0 : W.cell? ⟨w.heap.size, 0, none⟩ = some (.slice a1 3200 c1)
  sn : W.rowIs (w.heap.size + 1) 4 3200 (fun i => .bool (s.2.getD i false))
  td : RI W g s.1 cap
  mx : cap ≤ maxLen
  o : w.heap.size + 1 < g
theorem seen_row (w : World) (b : Nat) (hb : w.heap.size = b) : (w.alloc (.cells (madeCells #[.bool false] 3200) 4)).rowIs b 4 3200 (fun i => .bool (seen0.getD i false)) := by
  subst hb
  refine (made_bools w).congr fun i _ => ?_
  unfold seen0
  rw [List.getD_eq_getElem?_getD, List.getElem?_replicate]
  split <;> rfl
theorem RW.later {w W W' : World} {a1 : Option Addr} {c1 g cap : Nat} {s : List Int × List Bool} (k : RW w W a1 c1 g cap s) (hb : Below W.heap.size W W') : RW w W' a1 c1 g cap s :=
  ⟨k.bel.trans (hb.mono k.bel.size), cell_later hb k.c0, k.sn.of_block (hb.block _ k.sn.lt), k.td.later hb, k.mx, k.o⟩
theorem RW.see {w W : World} {a1 : Option Addr} {c1 g cap : Nat} {s : List Int × List Bool} (k : RW w W a1 c1 g cap s) (hl : s.2.length = 3200) {a : Nat} (ha : a < 3200) : RW w (W.setCell ⟨w.heap.size + 1, a, none⟩ (.bool true)) a1 c1 g cap (s.1, s.2.set a true) := by
  have o := k.o
  refine ⟨k.bel.setCell (p := ⟨w.heap.size + 1, a, none⟩) (Nat.le_succ _) _, (World.cell?_of_block (w := W) (a := ⟨w.heap.size, 0, none⟩) (Below.heap_setCell _ _ _ _ (by simp))).trans k.c0, (k.sn.set a _).congr fun i _ => ?_, k.td.setOther (by omega) _, k.mx, o⟩
  show (if i = a then Value.bool true else .bool (s.2.getD i false)) = .bool ((s.2.set a true).getD i false)
  simp only [List.getD_eq_getElem?_getD, List.getElem?_set]
  by_cases e : i = a
  · subst e
    rw [if_pos rfl, if_pos rfl, if_pos (by omega)]
    rfl
  · rw [if_neg e, if_neg (fun q => e q.symm)]
theorem RW.app {w W W' : World} {a1 : Option Addr} {c1 g cap g' cap' : Nat} {s : List Int × List Bool} {t : List Int} (k : RW w W a1 c1 g cap s) (hg : W.grownBy W' (some g)) (ht : RI W' g' t cap') (hx : cap' ≤ maxLen) (ho : g' = g ∨ (g' = W.heap.size ∧ W.heap.size < W'.heap.size)) : RW w W' a1 c1 g' cap' (t, s.2) := by
  have o := k.o
  have sz := k.td.lt
  have n0 : some w.heap.size ≠ some g := fun e => by injection e; omega
  have n1 : some (w.heap.size + 1) ≠ some g := fun e => by injection e; omega
  exact ⟨Below.grown k.bel hg k.bel.size (fun b hb => by cases hb; omega), hg.cell k.c0 n0, k.sn.of_block (hg.block _ k.sn.lt n1), ht, hx, by rcases ho with e | e <;> omega⟩

/-- What l10Reached answers: a row that says what was seen. -/
def ReOut (h : Hp) (B : Nat) (e : Ending) (w' : World) : Prop := ∃ g i, e = .returned (.slice (some ⟨g, 0, none⟩) 3200 3200) ∧ B ≤ g ∧ i = (rcS h i).1.length ∧ (rcS h i).2.length = 3200 ∧ w'.rowIs g 4 3200 (fun j => .bool ((rcS h i).2.getD j false))

set_option maxRecDepth 100000 in
set_option maxHeartbeats 3200000 in
theorem l10Reached_any (v : Value) (h : Hp) (l : List Nat) (R : RightAt h l) (w : World) (hv : HR w v h) :
    Calls Tryz.prog 128 #[v] w fun e w' => ReOut h w.heap.size e w' ∧ Below w.heap.size w w' := by
  obtain ⟨v1, v2, v3, rfl, i1, i2, i3⟩ := id hv
  have HL : Hid (h.words.length = 3200) := R.1.1
  obtain ⟨b, o, c1, rfl, hc1, hW⟩ := i1.ws (by have := R.1.1; omega)
  rw [R.1.1] at hc1 ⊢
  obtain ⟨a2, c2, rfl, -⟩ := IRs i2
  have hro : h.roots.length ≤ 20 := R.2.2.2.2.2.1
  have hmk := makeB
  have hb0 := bel_one w (.cells #[.slice (some ⟨b, o, none⟩) 3200 c1, .slice a2 h.roots.length c2, .int .i64 h.old, .int .i64 h.eden, .int .i64 h.surv, .bool h.flip, .int .i64 h.hash, v3] 26)
  have hb1 := bel_after hb0 (bel_one _ (.cells (madeCells #[.bool false] 3200) 4))
  have hb2 := bel_after hb1 (bel_one _ (.cells #[] 2))
  have x0 := cell_later (bel_after (bel_one _ (.cells (madeCells #[.bool false] 3200) 4)) (bel_one _ (.cells #[] 2))) (cell_new w #[.slice (some ⟨b, o, none⟩) 3200 c1, .slice a2 h.roots.length c2, .int .i64 h.old, .int .i64 h.eden, .int .i64 h.surv, .bool h.flip, .int .i64 h.hash, v3] 26 _ rfl 0 _ rfl)
  have SR0 := seen_row (w.alloc (.cells #[.slice (some ⟨b, o, none⟩) 3200 c1, .slice a2 h.roots.length c2, .int .i64 h.old, .int .i64 h.eden, .int .i64 h.surv, .bool h.flip, .int .i64 h.hash, v3] 26)) (w.heap.size + 1) (by simp)
  have SR1 := SR0.of_block ((bel_one _ (.cells #[] 2)).block _ SR0.lt)
  have E0 : RI (((w.alloc (.cells #[.slice (some ⟨b, o, none⟩) 3200 c1, .slice a2 h.roots.length c2, .int .i64 h.old, .int .i64 h.eden, .int .i64 h.surv, .bool h.flip, .int .i64 h.hash, v3] 26)).alloc (.cells (madeCells #[.bool false] 3200) 4)).alloc (.cells #[] 2)) (w.heap.size + 1 + 1) [] 0 := empty_at (by simp)
  have I2 := i2.later hb2
  have s2 : (((w.alloc (.cells #[.slice (some ⟨b, o, none⟩) 3200 c1, .slice a2 h.roots.length c2, .int .i64 h.old, .int .i64 h.eden, .int .i64 h.surv, .bool h.flip, .int .i64 h.hash, v3] 26)).alloc (.cells (madeCells #[.bool false] 3200) 4)).alloc (.cells #[] 2)).heap.size = w.heap.size + 1 + 1 + 1 := by simp
  have K0 : RW w (((w.alloc (.cells #[.slice (some ⟨b, o, none⟩) 3200 c1, .slice a2 h.roots.length c2, .int .i64 h.old, .int .i64 h.eden, .int .i64 h.surv, .bool h.flip, .int .i64 h.hash, v3] 26)).alloc (.cells (madeCells #[.bool false] 3200) 4)).alloc (.cells #[] 2)) (some ⟨b, o, none⟩) c1 (w.heap.size + 1 + 1) 0 ([], seen0) := ⟨hb2, x0, SR1, E0, Nat.zero_le _, Nat.lt_succ_self _⟩
  clear hv i1 i3 SR0 SR1 x0 hb0 hb1
  go_enter Tryz.func128, Tryz.ntmps128
  go_wp2_with (at_builtin; refine app_ri _ rfl _ _ rfl (w.heap.size + 1 + 1) 0 0 [] rfl rfl E0 (Nat.zero_le _) (Nat.zero_le _) a2 c2 h.roots.length h.roots rfl rfl I2 (by omega) ?_; intro g1 d1 w1 P1 G1 wh1 mx1; rw [List.nil_append] at P1; have K1 := K0.app G1 P1 mx1 wh1; clear P1 G1 wh1 K0 E0 I2)
  go_loopw [4, 5] (fun tv iv wr => ∃ i g cap, i ≤ (rcS h i).1.length ∧ iv = .int .i64 (i : Nat) ∧ tv = .slice (some ⟨g, 0, none⟩) (rcS h i).1.length cap ∧ RC h l (rcS h i) ∧ RW w wr (some ⟨b, o, none⟩) c1 g cap (rcS h i)) (fun _ iv _ => 192021 - (intOf iv).toNat)
  case atStart => exact ⟨0, g1, d1, Nat.zero_le _, rfl, rfl, rc_start R, K1⟩
  case round =>
    obtain ⟨i, g, cap, hi, rfl, rfl, C, K⟩ := hrel
    have short := C.short R
    clear K1 hb2 s2
    by_cases hlt : i < (rcS h i).1.length
    · have E : rcS h (i + 1) = rc1 h.words (rcS h i) i := by
        show (if _ then _ else _) = _
        rw [if_pos hlt]
      have C' := rc_step R C hlt
      rw [← E] at C'
      generalize rcS h i = s at *
      have ct := K.td.cell hlt
      have fx := C.fit (s.1.getD i 0) (by simp [hlt])
      unfold rc1 at E
      generalize s.1.getD i 0 = x at *
      have lti : (i : Int) < (s.1.length : Int) := by omega
      by_cases he : x % 2 = 0
      · rw [if_pos he] at E
        have E' : Hid (rcS h (i + 1) = s) := E
        have T : (x.tmod 2 == 0) = true := by rw [tmod_two]; exact decide_eq_true he
        have xs := small_half (small_fit fx)
        clear E fx he C hro hW
        go_wp2
        exact ⟨⟨i + 1, g, cap, by rw [E'.out]; omega, by go_num, by rw [E'.out], C', by rw [E'.out]; exact K⟩, by simp [intOf]; omega⟩
      · obtain ⟨a, ha, e1, e2, e3⟩ := odd_obj fx he
        rw [if_neg he, e1, Int.toNat_natCast] at E
        have T : (x.tmod 2 == 0) = false := by rw [tmod_two]; exact decide_eq_false he
        obtain ⟨o1, o2, o3⟩ := R.1.obj ha
        have cs := K.sn.cell (i := a) (by omega)
        have lta : (a : Int) < 3200 := by omega
        cases hs : s.2.getD a false
        · rw [if_neg (by rw [hs]; simp)] at E
          rw [hs] at cs
          have sz := size_of o3
          obtain ⟨m, hm⟩ := Int.eq_ofNat_of_zero_le sz.1
          have hnx : nx h.words a = a + 4 + m := by unfold nx; rw [hm]; rfl
          rw [hnx] at o2
          have m60 : m ≤ 60 := by omega
          have K2 := K.see C.len (a := a) (by omega)
          have lb : b < w.heap.size := World.block_lt_of_cell? _ _ (hW 0 (by rw [HL.out]; omega))
          have nb : ¬ b = w.heap.size + 1 := by omega
          have ca := (hW.later K.bel) a (by rw [HL.out]; omega)
          rw [hm] at ca
          have hW2 := hW.later K2.bel
          have F : Hid (∀ c q, m ≤ c → (m = 0 ∨ q = o + (a + 4)) → IR (wr.setCell ⟨w.heap.size + 1, a, none⟩ (.bool true)) (.slice (some ⟨b, q, none⟩) m c) (flds h.words a)) := fun c q hc hq => by
            have e : (flds h.words a).length = m := by rw [flds_len, hm]; rfl
            refine ⟨_, c, by rw [e], by rw [e]; exact hc, fun j hj => ⟨b, q, rfl, ?_⟩⟩
            rw [e] at hj
            obtain rfl := hq.resolve_left (by omega)
            have := hW2 (a + 4 + j) (by rw [HL.out]; omega)
            rw [show o + (a + 4) + j = o + (a + 4 + j) from by omega, this]
            simp [flds, hm, hj]
          have fl : Hid ((flds h.words a).length = m) := (by rw [flds_len, hm]; rfl : (flds h.words a).length = m)
          have E' : Hid (rcS h (i + 1) = (s.1 ++ flds h.words a, s.2.set a true)) := E
          have c0 := K.c0
          have fz := K.sn.frozen a
          have sl : s.1.length ≤ 1000000000000 := by omega
          have E2 : Hid ((s.1 ++ flds h.words a).length = s.1.length + m) := (by rw [List.length_append, fl.out] : (s.1 ++ flds h.words a).length = s.1.length + m)
          clear E fx he C hro hW hW2 hm sz o3 hnx ha R hs e1 e3
          have hmx : Tryz.prog.follows .mixedOrders = true := by kernel_rfl
          have w4 : IntKind.i64.wrap ((a : Int) + 4) = (a : Int) + 4 := by rw [IntKind.wrap_i64]; omega
          have w5 : IntKind.i64.wrap ((a : Int) + 4 + m) = (a : Int) + 4 + m := by rw [IntKind.wrap_i64]; omega
          have KD := K2.later (Below.refl _ _).drew
          have ca2 : (wr.setCell ⟨w.heap.size + 1, a, none⟩ (.bool true)).cell? ⟨b, o + a, none⟩ = some (.int .i64 (m : Nat)) := (World.cell?_of_block (w := wr) (a := ⟨b, o + a, none⟩) (Below.heap_setCell _ _ _ _ nb)).trans ca
          have gb : ¬ g = b := by have := K2.o; omega
          go_wp2_with fail
          refine Disk.z_plain 99 (fun W' => (W'.cell? ⟨w.heap.size, 0, none⟩ = some (.slice (some ⟨b, o, none⟩) 3200 c1) ∧ W'.cell? ⟨b, o + a, none⟩ = some (.int .i64 (m : Nat)))) hmx ⟨KD.c0, ca2⟩ (fun hs => ?_)
          refine Disk.z_take 0 38 (v := .slice (some ⟨g, 0, none⟩) s.1.length cap) rfl rfl (by kernel_rfl) (by kernel_rfl) (by kernel_rfl) (by kernel_rfl) (by rfl) hs (fun W' hSw => (by
            obtain ⟨s0, s1⟩ := hSw
            go_simp; first | done | with_reducible rfl)) ?_
          simp only [List.setIfInBounds_toArray, List.set_cons_zero, List.set_cons_succ]
          refine Disk.z_take 1 39 (v := .pointer (some ⟨w.heap.size, 0, none⟩)) rfl rfl (by kernel_rfl) (by kernel_rfl) (by kernel_rfl) (by kernel_rfl) (by rfl) hs (fun W' hSw => (by
            obtain ⟨s0, s1⟩ := hSw
            go_simp; first | done | with_reducible rfl)) ?_
          simp only [List.setIfInBounds_toArray, List.set_cons_zero, List.set_cons_succ]
          refine Disk.z_take 2 40 (v := .slice (some ⟨b, o, none⟩) 3200 c1) rfl rfl (by kernel_rfl) (by kernel_rfl) (by kernel_rfl) (by kernel_rfl) (by rfl) hs (fun W' hSw => (by
            obtain ⟨s0, s1⟩ := hSw
            go_simp; first | done | with_reducible rfl)) ?_
          simp only [List.setIfInBounds_toArray, List.set_cons_zero, List.set_cons_succ]
          refine Disk.z_take 3 41 (v := .int .i64 (a : Nat)) rfl rfl (by kernel_rfl) (by kernel_rfl) (by kernel_rfl) (by kernel_rfl) (by rfl) hs (fun W' hSw => (by
            obtain ⟨s0, s1⟩ := hSw
            go_simp; first | done | with_reducible rfl)) ?_
          simp only [List.setIfInBounds_toArray, List.set_cons_zero, List.set_cons_succ]
          refine Disk.z_take 4 42 (v := .int .i64 ((a : Int) + 4)) rfl rfl (by kernel_rfl) (by kernel_rfl) (by kernel_rfl) (by kernel_rfl) (by rfl) hs (fun W' hSw => (by
            obtain ⟨s0, s1⟩ := hSw
            go_simp; first | done | with_reducible rfl)) ?_
          simp only [List.setIfInBounds_toArray, List.set_cons_zero, List.set_cons_succ]
          refine Disk.z_take 5 43 (v := .int .i64 (a : Nat)) rfl rfl (by kernel_rfl) (by kernel_rfl) (by kernel_rfl) (by kernel_rfl) (by rfl) hs (fun W' hSw => (by
            obtain ⟨s0, s1⟩ := hSw
            go_simp; first | done | with_reducible rfl)) ?_
          simp only [List.setIfInBounds_toArray, List.set_cons_zero, List.set_cons_succ]
          refine Disk.z_take 6 44 (v := .int .i64 ((a : Int) + 4)) rfl rfl (by kernel_rfl) (by kernel_rfl) (by kernel_rfl) (by kernel_rfl) (by rfl) hs (fun W' hSw => (by
            obtain ⟨s0, s1⟩ := hSw
            go_simp; first | done | with_reducible rfl)) ?_
          simp only [List.setIfInBounds_toArray, List.set_cons_zero, List.set_cons_succ]
          refine Disk.z_take 7 45 (v := .pointer (some ⟨w.heap.size, 0, none⟩)) rfl rfl (by kernel_rfl) (by kernel_rfl) (by kernel_rfl) (by kernel_rfl) (by rfl) hs (fun W' hSw => (by
            obtain ⟨s0, s1⟩ := hSw
            go_simp; first | done | with_reducible rfl)) ?_
          simp only [List.setIfInBounds_toArray, List.set_cons_zero, List.set_cons_succ]
          refine Disk.z_take 8 46 (v := .slice (some ⟨b, o, none⟩) 3200 c1) rfl rfl (by kernel_rfl) (by kernel_rfl) (by kernel_rfl) (by kernel_rfl) (by rfl) hs (fun W' hSw => (by
            obtain ⟨s0, s1⟩ := hSw
            go_simp; first | done | with_reducible rfl)) ?_
          simp only [List.setIfInBounds_toArray, List.set_cons_zero, List.set_cons_succ]
          refine Disk.z_take 9 47 (v := .int .i64 (a : Nat)) rfl rfl (by kernel_rfl) (by kernel_rfl) (by kernel_rfl) (by kernel_rfl) (by rfl) hs (fun W' hSw => (by
            obtain ⟨s0, s1⟩ := hSw
            go_simp; first | done | with_reducible rfl)) ?_
          simp only [List.setIfInBounds_toArray, List.set_cons_zero, List.set_cons_succ]
          refine Disk.z_take 10 48 (v := .pointer (some ⟨b, o + a, none⟩)) rfl rfl (by kernel_rfl) (by kernel_rfl) (by kernel_rfl) (by kernel_rfl) (by rfl) hs (fun W' hSw => (by
            obtain ⟨s0, s1⟩ := hSw
            go_simp; first | done | with_reducible rfl)) ?_
          simp only [List.setIfInBounds_toArray, List.set_cons_zero, List.set_cons_succ]
          refine Disk.z_take 11 49 (v := .int .i64 (m : Nat)) rfl rfl (by kernel_rfl) (by kernel_rfl) (by kernel_rfl) (by kernel_rfl) (by rfl) hs (fun W' hSw => (by
            obtain ⟨s0, s1⟩ := hSw
            go_simp; first | done | with_reducible rfl)) ?_
          simp only [List.setIfInBounds_toArray, List.set_cons_zero, List.set_cons_succ]
          refine Disk.z_take 12 50 (v := .int .i64 ((a : Int) + 4 + m)) rfl rfl (by kernel_rfl) (by kernel_rfl) (by kernel_rfl) (by kernel_rfl) (by rfl) hs (fun W' hSw => (by
            obtain ⟨s0, s1⟩ := hSw
            go_simp; first | done | with_reducible rfl)) ?_
          simp only [List.setIfInBounds_toArray, List.set_cons_zero, List.set_cons_succ]
          by_cases hz' : c1 - (a + 4) = 0
          · have hz : Hid (c1 = a + 4) := (by omega : c1 = a + 4)
            have fq : m = 0 ∨ o = o + (a + 4) := .inl (by omega)
            clear hz'
            refine Disk.z_take 13 51 (v := .slice (some ⟨b, o, none⟩) m (c1 - (a + 4))) rfl rfl (by kernel_rfl) (by kernel_rfl) (by kernel_rfl) (by kernel_rfl) (by rfl) hs (fun W' hSw => (by
              obtain ⟨s0, s1⟩ := hSw
              go_simp; rw [if_pos ⟨by omega, by omega⟩, if_pos ⟨by omega, by omega⟩, show ((a : Int) + 4).toNat = a + 4 from by omega, show ((a : Int) + 4 + m).toNat - (a + 4) = m from by omega, if_pos hz.out])) ?_
            simp only [List.setIfInBounds_toArray, List.set_cons_zero, List.set_cons_succ]
            obtain ⟨g4, d4, w4, run, P4, G4, wh4, mx4⟩ := run_app_ri (wr.setCell ⟨w.heap.size + 1, a, none⟩ (.bool true)).drew 24 g cap s.1.length s.1 rfl KD.td sl KD.mx (some ⟨b, o, none⟩) (c1 - (a + 4)) m (flds h.words a) fl.out.symm ((F.out _ _ (by omega) fq).later (Below.refl _ _).drew) (by rw [fl.out]; omega)
            have K4 := KD.app G4 P4 mx4 wh4
            refine Disk.z_run 14 52 rfl rfl (by kernel_rfl) (by rfl) (exec_appI _ _ rfl _ _ rfl rfl run) (.inr ⟨K4.c0, G4.cell ca2 (fun e => gb (Option.some.inj e).symm)⟩) ?_
            simp only [List.setIfInBounds_toArray, List.set_cons_zero, List.set_cons_succ]
            refine Disk.z_run 15 4 (v := .slice (some ⟨g4, 0, none⟩) (s.1.length + m) d4) rfl rfl (by kernel_rfl) (by rfl) (w' := w4) (by go_simp) (.inr ⟨K4.c0, G4.cell ca2 (fun e => gb (Option.some.inj e).symm)⟩) ?_
            simp only [List.setIfInBounds_toArray, List.set_cons_zero, List.set_cons_succ]
            refine Disk.z_done (by kernel_rfl) ?_ _
            clear run P4 G4 wh4 hs KD K2 F
            go_wp2
            exact ⟨⟨i + 1, g4, d4, by rw [E'.out]; show _ ≤ (s.1 ++ flds h.words a).length; rw [E2.out]; omega, by go_num, by rw [E'.out]; show _ = Value.slice _ (s.1 ++ flds h.words a).length _; rw [E2.out], C', by rw [E'.out]; exact K4⟩, by simp [intOf]; omega⟩
          · have hz : Hid (¬ c1 = a + 4) := (by omega : ¬ c1 = a + 4)
            have fq : m = 0 ∨ o + (a + 4) = o + (a + 4) := .inr rfl
            clear hz'
            refine Disk.z_take 13 51 (v := .slice (some ⟨b, o + (a + 4), none⟩) m (c1 - (a + 4))) rfl rfl (by kernel_rfl) (by kernel_rfl) (by kernel_rfl) (by kernel_rfl) (by rfl) hs (fun W' hSw => (by
              obtain ⟨s0, s1⟩ := hSw
              go_simp; rw [if_pos ⟨by omega, by omega⟩, if_pos ⟨by omega, by omega⟩, show ((a : Int) + 4).toNat = a + 4 from by omega, show ((a : Int) + 4 + m).toNat - (a + 4) = m from by omega, if_neg hz.out])) ?_
            simp only [List.setIfInBounds_toArray, List.set_cons_zero, List.set_cons_succ]
            obtain ⟨g4, d4, w4, run, P4, G4, wh4, mx4⟩ := run_app_ri (wr.setCell ⟨w.heap.size + 1, a, none⟩ (.bool true)).drew 24 g cap s.1.length s.1 rfl KD.td sl KD.mx (some ⟨b, o + (a + 4), none⟩) (c1 - (a + 4)) m (flds h.words a) fl.out.symm ((F.out _ _ (by omega) fq).later (Below.refl _ _).drew) (by rw [fl.out]; omega)
            have K4 := KD.app G4 P4 mx4 wh4
            refine Disk.z_run 14 52 rfl rfl (by kernel_rfl) (by rfl) (exec_appI _ _ rfl _ _ rfl rfl run) (.inr ⟨K4.c0, G4.cell ca2 (fun e => gb (Option.some.inj e).symm)⟩) ?_
            simp only [List.setIfInBounds_toArray, List.set_cons_zero, List.set_cons_succ]
            refine Disk.z_run 15 4 (v := .slice (some ⟨g4, 0, none⟩) (s.1.length + m) d4) rfl rfl (by kernel_rfl) (by rfl) (w' := w4) (by go_simp) (.inr ⟨K4.c0, G4.cell ca2 (fun e => gb (Option.some.inj e).symm)⟩) ?_
            simp only [List.setIfInBounds_toArray, List.set_cons_zero, List.set_cons_succ]
            refine Disk.z_done (by kernel_rfl) ?_ _
            clear run P4 G4 wh4 hs KD K2 F
            go_wp2
            exact ⟨⟨i + 1, g4, d4, by rw [E'.out]; show _ ≤ (s.1 ++ flds h.words a).length; rw [E2.out]; omega, by go_num, by rw [E'.out]; show _ = Value.slice _ (s.1 ++ flds h.words a).length _; rw [E2.out], C', by rw [E'.out]; exact K4⟩, by simp [intOf]; omega⟩
        · rw [if_pos hs] at E
          rw [hs] at cs
          have E' : Hid (rcS h (i + 1) = s) := E
          clear E fx he C hro hW o3 R hs e1 e3
          go_wp2
          exact ⟨⟨i + 1, g, cap, by rw [E'.out]; omega, by go_num, by rw [E'.out], C', by rw [E'.out]; exact K⟩, by simp [intOf]; omega⟩
    · have ei : Hid (i = (rcS h i).1.length) := (by omega : i = (rcS h i).1.length)
      have ni : ¬ (i : Int) < ((rcS h i).1.length : Int) := by omega
      clear hro hW R
      go_wp2
      exact bodyPost_ret (v := .slice (some ⟨w.heap.size + 1, 0, none⟩) 3200 3200) (by simp [results, Tryz.results128, go_sem]) rfl ⟨⟨_, i, rfl, Nat.le_succ _, ei.out, C.len, K.sn⟩, K.bel⟩

end Go.Proofs.YtklafifiphbibaaGreat
