import Derived.Test.YtgacacbncefeaaaGreatZP9
import Derived.Test.YtgacacbncefeaaaGreatZP5
import Derived.Test.YtgacacbncefeaaaGreatZHLawM
import Derived.Test.YtgacacbncefeaaaGreatZP7
import Derived.Test.YtgacacbncefeaaaGreatZP4
import Derived.Test.YtgacacbncefeaaaGreatZP8
/- NewVm of the model. -/
namespace Go.Proofs.YtgacacbncefeaaaGreat
open Go.RowKit

theorem two_ri (w : World) (a b : Int) : RI (w.alloc (.cells #[.int .i64 a, .int .i64 b] 2)) w.heap.size [a, b] 2 := by
  refine ⟨fun i => (#[.int .i64 a, .int .i64 b] : Array Value)[i]?.getD undef, row_any w #[.int .i64 a, .int .i64 b] 2, Nat.le_refl _, fun i hi => ?_⟩
  match i, hi with
  | 0, _ => rfl
  | 1, _ => rfl
/-- append of whatever Codes to an empty row of the call's own, as a run. -/
theorem run_appC (w : World) (ty : TypeId) (g : Nat) (hR : w.ownsRow 0 59 2 (.slice (some ⟨g, 0, none⟩) 0 0) 0 []) (v : Value) (l : List Cd) (hI : CR w v l) (hl : l.length ≤ 1000000000) :
    ∃ u w', (Builtin.append_ #[24, 24] ty #[.slice (some ⟨g, 0, none⟩) 0 0, v]).run Tryz.prog w = .ok u w' ∧ u.oneCell' = true ∧ CR w' u l ∧ Disk.OS w' 59 2 u l.length ∧ w.grownBy w' (some g) ∧ (∀ b, Disk.rowOf u l.length = some b → b = g ∨ b = w.heap.size) := by
  obtain ⟨ao, cp, rfl, _, hc⟩ := hI
  by_cases h0 : l.length = 0
  · obtain rfl : l = [] := List.eq_nil_of_length_eq_zero h0
    obtain ⟨i, hi, hzz⟩ := Option.map_eq_some_iff.1 Tryz.infoCK
    simp only [Prod.mk.injEq] at hzz
    obtain ⟨hz, hsz, hby⟩ := hzz
    have hu : Tryz.prog.underlying 24 = some (.slice 59) := Tryz.underCK
    have hld : ∀ (x : Addr), (loadCells x 0).run Tryz.prog w = .ok #[] w := fun x => by simpa using run_loadCells_list (P := Tryz.prog) w x [] (by simp)
    refine ⟨.slice (some ⟨g, 0, none⟩) 0 0, w, ?_, by simp [Value.oneCell'], ⟨_, _, rfl, Nat.le_refl _, fun i hi => absurd hi (Nat.not_lt_zero i)⟩, ⟨_, _, rfl, .inl rfl⟩, ⟨rfl, rfl, rfl, Nat.le_refl _, fun _ _ _ => rfl⟩, fun b hb => by unfold Disk.rowOf at hb; simp at hb⟩
    cases ao <;> simp [Builtin.append_, run_underlying hu, Builtin.lenOf, Builtin.firstCells, sizeOf, typeInfo, hi, hld, storeCells]
  · obtain ⟨i, hi, hzz⟩ := Option.map_eq_some_iff.1 Tryz.infoCK
    simp only [Prod.mk.injEq] at hzz
    obtain ⟨hz, hsz, hby⟩ := hzz
    obtain ⟨b, q, rfl, _, _⟩ := hc 0 (by omega)
    obtain ⟨v', w', run, h1, h2, h3, h4⟩ := run_append_own_at (P := Tryz.prog) w 0 24 ty 59 i _ 2 16 Tryz.underCK hi hz hsz hby rfl (by omega) _ 0 [] hR ⟨b, q, none⟩ l.length cp ((List.range (l.length * 2)).map (kcell l)) (by simp) (fun j u hj => by
      have hj2 : j < l.length * 2 := by
        rcases Nat.lt_or_ge j (l.length * 2) with k | k
        · exact k
        · rw [List.getElem?_eq_none (by simp; omega)] at hj; cases hj
      rw [kcells_get l j hj2] at hj
      simp only [Option.some.injEq] at hj
      subst hj
      obtain ⟨b', q', e2, hx, hy⟩ := hc (j / 2) (by omega)
      simp only [Option.some.injEq, Addr.mk.injEq, and_true] at e2
      obtain ⟨rfl, rfl⟩ := e2
      have ad : (⟨b, q, none⟩ : Addr).add j = ⟨b, q + j, none⟩ := by
        unfold Addr.add
        split
        · subst j; rfl
        · rfl
      rw [ad]
      unfold kcell
      split
      · rw [← hx, show q + j / 2 * 2 = q + j from by omega]
      · rw [← hy, show q + j / 2 * 2 + 1 = q + j from by omega]) (fun u hu => by
      obtain ⟨z, _, rfl⟩ := List.mem_map.1 hu
      rfl) (by unfold maxLen; omega) (by omega) (Nat.zero_le _)
    rw [List.nil_append, Nat.zero_add] at h1
    obtain ⟨_, h1⟩ := h1
    rcases h1 with ⟨_, e⟩ | ⟨g', cap, cur, rfl, _, hh, k1, k2, k3, k4⟩
    · omega
    have hcell : ∀ c, c < l.length * 2 → cur[c]? = some (kcell l c) := fun c hcx => by
      have q2 : (cur.toList.take (l.length * 2))[c]? = ((List.range (l.length * 2)).map (kcell l))[c]? := by rw [k4]
      rw [List.getElem?_take_of_lt hcx, kcells_get l c hcx] at q2
      rw [← Array.getElem?_toList]
      exact q2
    have hw : ∀ c, c < l.length * 2 → w'.cell? ⟨g', c, none⟩ = some (kcell l c) := fun c hcx => by
      simp [World.cell?, hh, hcell c hcx]
    refine ⟨_, w', run, by simp [Value.oneCell'], ⟨_, _, rfl, k1, fun i hi => ⟨g', 0, rfl, ?_, ?_⟩⟩, ⟨_, _, rfl, .inr ⟨g', cap * 2, fun c => cur[c]?.getD undef, rfl, by omega, ⟨cur, hh, k3, fun c hcx => ?_⟩⟩⟩, h2, fun b hb => ?_⟩
    · rw [Nat.zero_add, hw _ (by omega), kcell_even]
    · rw [Nat.zero_add, hw _ (by omega), kcell_odd]
    · have : c < cur.size := by omega
      simp [this]
    · unfold Disk.rowOf at hb
      rw [if_neg h0] at hb
      have hb2 : some g' = some b := hb
      injection hb2 with hb2
      subst hb2
      rcases h4 with e | e
      · left
        have e2 : some g' = some g := e
        injection e2
      · right
        have e2 : some g' = some w.heap.size := e
        injection e2

theorem sNew1 (v : Value) (w : World) (hv : HR w v newH) : Calls Tryz.prog 40 #[v, .int .i64 1, .int .i64 40] w fun e w' => (∃ u, e = .returned (.tuple #[u, .int .i64 4001, .bool true]) ∧ HN w.heap.size w' u nT1) ∧ Below w.heap.size w w' := by
  have q := specNew_c v newH 1 40 w hv (by show newW.length ≤ _; rw [newW_length]; omega) (by show ([] : List Int).length ≤ _; simp) (by show ([] : List Int).length ≤ _; simp)
  rw [nW1, nq1] at q
  exact q
theorem sNew2 (v : Value) (w : World) (hv : HR w v nT1) : Calls Tryz.prog 40 #[v, .int .i64 2, .int .i64 10] w fun e w' => (∃ u, e = .returned (.tuple #[u, .int .i64 4089, .bool true]) ∧ HN w.heap.size w' u nT2) ∧ Below w.heap.size w w' := by
  obtain ⟨⟨l1, l2, l3⟩, _⟩ := nT_len
  have q := specNew_c v nT1 2 10 w hv (by omega) (by omega) (by omega)
  rw [nW2, nq2] at q
  exact q

set_option maxRecDepth 100000 in
set_option maxHeartbeats 3200000 in
theorem specNewVm_any (vp : Value) (pr : List Cd) (w : World) (ip : CR w vp pr) (hl : pr.length ≤ 1000000000) :
    Calls Tryz.prog 10 #[vp] w fun e w' => (∃ v, e = .returned (.tuple #[v, .bool (progB pr)]) ∧ VN w.heap.size w' v (nvR pr)) ∧ Below w.heap.size w w' := by
  obtain ⟨M, hM⟩ : ∃ M, M = nvR pr := ⟨_, rfl⟩
  rw [← hM]
  replace hM : Hid (M = nvR pr) := hM
  have hb0 := bel_one w (.cells #[.slice none 0 0, .slice none 0 0, .int .i64 0, .int .i64 0, .int .i64 0, .bool false, .int .i64 0, .slice none 0 0, .slice none 0 0, .int .i64 0, .slice none 0 0, .int .i64 0] 30)
  have R0 : Bk (w.alloc (.cells #[.slice none 0 0, .slice none 0 0, .int .i64 0, .int .i64 0, .int .i64 0, .bool false, .int .i64 0, .slice none 0 0, .slice none 0 0, .int .i64 0, .slice none 0 0, .int .i64 0] 30)) w.heap.size #[.slice none 0 0, .slice none 0 0, .int .i64 0, .int .i64 0, .int .i64 0, .bool false, .int .i64 0, .slice none 0 0, .slice none 0 0, .int .i64 0, .slice none 0 0, .int .i64 0] 30 := Bk.new w _ _
  have P0 := specProgB_any vp pr _ (ip.later hb0) hl
  have ltR := R0.lt
  go_enter Tryz.func10, Tryz.ntmps10
  go_wp2_with fail
  refine P0.mono ?_
  clear P0
  rintro e w1 ⟨rfl, hb1⟩
  have bw1 := bel_after hb0 hb1
  have R1 := R0.later hb1
  have le1 : w.heap.size + 1 ≤ w1.heap.size := R1.lt
  cases PB : progB pr
  case false =>
    have eM : Hid (M = zeroM) := (by rw [hM.out]; unfold nvR; rw [PB]; rfl : M = zeroM)
    obtain ⟨w2, run2, R2, g2, z2⟩ := R1.store 30 #[.slice none 0 0, .slice none 0 0, .int .i64 0, .int .i64 0, .int .i64 0, .bool false, .int .i64 0, .slice none 0 0, .slice none 0 0, .int .i64 0, .slice none 0 0, .int .i64 0] (by simp) (by kernel_rfl) (by simp [Value.oneCell'])
    have bw2 : Below w.heap.size w w2 := Below.grown bw1 g2 bw1.size (fun q hq => by cases hq; omega)
    clear ltR
    go_wp2_with (refine wp_storeK run2 rfl _ _ rfl rfl rfl rfl ?_)
    have r0 := R2.cell 0 (.slice none 0 0) rfl
    have r1 := R2.cell 1 (.slice none 0 0) rfl
    have r2 := R2.cell 2 (.int .i64 0) rfl
    have r3 := R2.cell 3 (.int .i64 0) rfl
    have r4 := R2.cell 4 (.int .i64 0) rfl
    have r5 := R2.cell 5 (.bool false) rfl
    have r6 := R2.cell 6 (.int .i64 0) rfl
    have r7 := R2.cell 7 (.slice none 0 0) rfl
    have r8 := R2.cell 8 (.slice none 0 0) rfl
    have r9 := R2.cell 9 (.int .i64 0) rfl
    have r10 := R2.cell 10 (.slice none 0 0) rfl
    have r11 := R2.cell 11 (.int .i64 0) rfl
    exact bodyPost_ret (v := .tuple #[.agg #[.slice none 0 0, .slice none 0 0, .int .i64 0, .int .i64 0, .int .i64 0, .bool false, .int .i64 0, .slice none 0 0, .slice none 0 0, .int .i64 0, .slice none 0 0, .int .i64 0], .bool false]) (by simp [results, Tryz.results10, go_sem, r0, r1, r2, r3, r4, r5, r6, r7, r8, r9, r10, r11]) rfl ⟨⟨_, by rw [PB], by rw [eM.out]; exact zero_vn _ _⟩, bw2⟩
  have eM : Hid (M = ⟨{ nT2 with roots := [4001, 4089] }, pr, 0, [], 0⟩) := (by rw [hM.out]; unfold nvR; rw [PB]; show nvM pr = _; unfold nvM; rw [nT4_eq] : M = _)
  replace PB : Hid (progB pr = true) := PB
  clear ltR hb1 hb0 hM
  go_wp2_with fail
  refine (specNewHeap_any w1).mono ?_
  rintro e w2 ⟨⟨u0, rfl, h0⟩, hb2⟩
  have bw2 := bel_after bw1 hb2
  have R2 := R1.later hb2
  have C := sNew1 u0 w2 h0.hr
  clear h0 R0 R1
  go_wp2_with fail
  refine C.mono ?_
  clear C
  rintro e w3 ⟨⟨u1, rfl, h1⟩, hb3⟩
  have bw3 := bel_after bw2 hb3
  have R3 := R2.later hb3
  obtain ⟨a1, c1, b1, d1, e1, f1, rfl, -⟩ := h1.out
  have al := bel_one w3 (.cells #[.slice a1 nT1.words.length c1, .slice b1 nT1.roots.length d1, .int .i64 nT1.old, .int .i64 nT1.eden, .int .i64 nT1.surv, .bool nT1.flip, .int .i64 nT1.hash, .slice e1 nT1.kept.length f1] 28)
  have X4 : Bk (w3.alloc (.cells #[.slice a1 nT1.words.length c1, .slice b1 nT1.roots.length d1, .int .i64 nT1.old, .int .i64 nT1.eden, .int .i64 nT1.surv, .bool nT1.flip, .int .i64 nT1.hash, .slice e1 nT1.kept.length f1] 28)) w3.heap.size #[.slice a1 nT1.words.length c1, .slice b1 nT1.roots.length d1, .int .i64 nT1.old, .int .i64 nT1.eden, .int .i64 nT1.surv, .bool nT1.flip, .int .i64 nT1.hash, .slice e1 nT1.kept.length f1] 28 := Bk.new w3 _ _
  have R4 := R3.later al
  have bw4 := bel_after bw3 al
  have le3 : w.heap.size + 1 ≤ w3.heap.size := R3.lt
  have C := sNew2 _ _ (h1.later al).hr
  have x0 := X4.cell 0 (.slice a1 nT1.words.length c1) rfl
  have x1 := X4.cell 1 (.slice b1 nT1.roots.length d1) rfl
  have x2 := X4.cell 2 (.int .i64 nT1.old) rfl
  have x3 := X4.cell 3 (.int .i64 nT1.eden) rfl
  have x4 := X4.cell 4 (.int .i64 nT1.surv) rfl
  have x5 := X4.cell 5 (.bool nT1.flip) rfl
  have x6 := X4.cell 6 (.int .i64 nT1.hash) rfl
  have x7 := X4.cell 7 (.slice e1 nT1.kept.length f1) rfl
  clear h1 R2 R3
  go_wp2_with fail
  refine C.mono ?_
  clear C x0 x1 x2 x3 x4 x5 x6 x7
  rintro e w5 ⟨⟨u2, rfl, h2⟩, hb5⟩
  have bw5 := bel_after bw4 hb5
  have R5 := R4.later hb5
  have X5 := X4.later hb5
  have sz4 : (w3.alloc (.cells #[.slice a1 nT1.words.length c1, .slice b1 nT1.roots.length d1, .int .i64 nT1.old, .int .i64 nT1.eden, .int .i64 nT1.surv, .bool nT1.flip, .int .i64 nT1.hash, .slice e1 nT1.kept.length f1] 28)).heap.size = w3.heap.size + 1 := by simp
  obtain ⟨a2, c2, b2, d2, e2, f2, rfl, -⟩ := h2.out
  have OK2 : (#[.slice a2 nT2.words.length c2, .slice b2 nT2.roots.length d2, .int .i64 nT2.old, .int .i64 nT2.eden, .int .i64 nT2.surv, .bool nT2.flip, .int .i64 nT2.hash, .slice e2 nT2.kept.length f2] : Array Value).all (·.oneCell') = true := by simp [Value.oneCell']
  obtain ⟨w6, run6, X6, g6, z6⟩ := X5.store 28 #[.slice a2 nT2.words.length c2, .slice b2 nT2.roots.length d2, .int .i64 nT2.old, .int .i64 nT2.eden, .int .i64 nT2.surv, .bool nT2.flip, .int .i64 nT2.hash, .slice e2 nT2.kept.length f2] (by simp) (by kernel_rfl) OK2
  have R6 := R5.off g6 (by intro e; injection e with e; omega)
  have bw6 : Below w.heap.size w w6 := Below.grown bw5 g6 bw5.size (fun q hq => by cases hq; omega)
  have h6 := (h2.keep (w' := w6) (fun b p q => g6.block b q (by intro e; injection e with e; omega))).down (C := w3.heap.size + 1) (by omega)
  have le5 : w3.heap.size + 1 ≤ w5.heap.size := by have := hb5.size; omega
  have hi6 : ∀ b, (Disk.rowOf (.slice a2 nT2.words.length c2) nT2.words.length = some b ∨ Disk.rowOf (.slice e2 nT2.kept.length f2) nT2.kept.length = some b) → b < w6.heap.size := fun b hb => by
    obtain ⟨⟨o1, o2, o3⟩, _⟩ := h6.irs
    rcases hb with hb | hb
    · exact o1.row b hb
    · exact o3.row b hb
  clear h2 R4 R5 X4 X5 g6 OK2 hb5
  have lt6 := X6.lt
  have x1 := X6.cell 1 (.slice b2 nT2.roots.length d2) rfl
  have xf := X6.frozen 1
  have X7 := X6.setc 1 (.slice (some ⟨w6.heap.size, 0, none⟩) 2 2) #[.slice a2 nT2.words.length c2, .slice (some ⟨w6.heap.size, 0, none⟩) 2 2, .int .i64 nT2.old, .int .i64 nT2.eden, .int .i64 nT2.surv, .bool nT2.flip, .int .i64 nT2.hash, .slice e2 nT2.kept.length f2] rfl
  have g7 := Disk.grown_set w6 w3.heap.size 1 (.slice (some ⟨w6.heap.size, 0, none⟩) 2 2)
  have R7 := R6.off g7 (by intro e; injection e with e; omega)
  have bw7 : Below w.heap.size w (w6.setCell ⟨w3.heap.size, 1, none⟩ (.slice (some ⟨w6.heap.size, 0, none⟩) 2 2)) := Below.grown bw6 g7 bw6.size (fun q hq => by cases hq; omega)
  have h7 := h6.keep (fun b p q => g7.block b q (by intro e; injection e with e; omega))
  clear R6 X6 h6 z6 sz4
  go_wp2_with (first | refine wp_storeK run6 rfl _ _ rfl rfl rfl rfl ?_ | fail)
  clear x1 xf run6 g7
  obtain ⟨w7, e7⟩ : ∃ x, x = w6.setCell ⟨w3.heap.size, 1, none⟩ (.slice (some ⟨w6.heap.size, 0, none⟩) 2 2) := ⟨_, rfl⟩
  have sz7 : w7.heap.size = w6.heap.size := by rw [e7]; simp
  rw [← e7] at X7 R7 bw7 h7 ⊢
  clear e7
  have al8 := bel_one w7 (.cells #[.int .i64 4001, .int .i64 4089] 2)
  have RR8 := two_ri w7 4001 4089
  rw [sz7] at RR8
  have X8 := X7.later al8
  have R8 := R7.later al8
  have h8 := h7.later al8
  have bw8 := bel_after bw7 al8
  obtain ⟨w8, e8⟩ : ∃ x, x = w7.alloc (.cells #[.int .i64 4001, .int .i64 4089] 2) := ⟨_, rfl⟩
  have sz8 : w8.heap.size = w6.heap.size + 1 := by rw [e8]; simp [sz7]
  rw [← e8] at X8 R8 bw8 h8 RR8 ⊢
  clear e8 X7 R7 h7 al8 sz7
  obtain ⟨gr, egr⟩ : ∃ x, x = w6.heap.size := ⟨_, rfl⟩
  rw [← egr] at X8 RR8 hi6 sz8 ⊢
  have l3r : w3.heap.size + 1 ≤ gr := by omega
  clear egr lt6 le5
  obtain ⟨⟨s1, s2, s3⟩, ⟨t1, t2, t3⟩, ⟨lo1, lo2, lo3⟩, _, q13, _⟩ := h8.irs
  refine Disk.z_plain 99 (fun W' => Bk W' w3.heap.size #[.slice a2 nT2.words.length c2, .slice (some ⟨gr, 0, none⟩) 2 2, .int .i64 nT2.old, .int .i64 nT2.eden, .int .i64 nT2.surv, .bool nT2.flip, .int .i64 nT2.hash, .slice e2 nT2.kept.length f2] 28) (by kernel_rfl) X8.drew fun hz => ?_
  refine Disk.z_take 0 29 (v := .agg #[.slice a2 nT2.words.length c2, .slice (some ⟨gr, 0, none⟩) 2 2, .int .i64 nT2.old, .int .i64 nT2.eden, .int .i64 nT2.surv, .bool nT2.flip, .int .i64 nT2.hash, .slice e2 nT2.kept.length f2]) rfl rfl (by kernel_rfl) (by kernel_rfl) (by kernel_rfl) (by kernel_rfl) (by rfl) hz (fun W' hSw => (by
    have z0 := hSw.cell 0 (.slice a2 nT2.words.length c2) rfl
    have z1 := hSw.cell 1 (.slice (some ⟨gr, 0, none⟩) 2 2) rfl
    have z2 := hSw.cell 2 (.int .i64 nT2.old) rfl
    have z3 := hSw.cell 3 (.int .i64 nT2.eden) rfl
    have z4 := hSw.cell 4 (.int .i64 nT2.surv) rfl
    have z5 := hSw.cell 5 (.bool nT2.flip) rfl
    have z6 := hSw.cell 6 (.int .i64 nT2.hash) rfl
    have z7 := hSw.cell 7 (.slice e2 nT2.kept.length f2) rfl
    go_simp; first | done | with_reducible rfl)) ?_
  simp only [List.setIfInBounds_toArray, List.set_cons_zero, List.set_cons_succ]
  refine Disk.z_take 2 31 (v := vp) rfl rfl (by kernel_rfl) (by kernel_rfl) (by kernel_rfl) (by kernel_rfl) (by rfl) hz (fun W' hSw => (by
    clear hSw
    go_simp; first | done | with_reducible rfl)) ?_
  simp only [List.setIfInBounds_toArray, List.set_cons_zero, List.set_cons_succ]
  have hz1 : Bk (w8.drew.alloc (.cells #[] 59)) w3.heap.size #[.slice a2 nT2.words.length c2, .slice (some ⟨gr, 0, none⟩) 2 2, .int .i64 nT2.old, .int .i64 nT2.eden, .int .i64 nT2.surv, .bool nT2.flip, .int .i64 nT2.hash, .slice e2 nT2.kept.length f2] 28 := hz.alloc _
  have OE := own_none w8.drew 0 59 2 (Nat.zero_le _)
  refine Disk.z_run 1 30 (w' := w8.drew.alloc (.cells #[] 59)) (v := .slice (some ⟨w8.drew.heap.size, 0, none⟩) 0 0) rfl rfl (by kernel_rfl) (by rfl) (by go_simp; first | done | with_reducible rfl) (.inr hz1) ?_
  simp only [List.setIfInBounds_toArray, List.set_cons_zero, List.set_cons_succ]
  have al9 := bel_one w8.drew (.cells #[] 59)
  have b89 : Below w8.heap.size w8 (w8.drew.alloc (.cells #[] 59)) := bel_after (Below.refl _ _).drew al9
  have bw9 := bel_after bw8 b89
  obtain ⟨u, w10, run, -, cu, su, hg, hrow⟩ := run_appC (w8.drew.alloc (.cells #[] 59)) 24 w8.drew.heap.size OE vp pr (ip.later bw9) hl
  obtain ⟨ua, uc, rfl, -⟩ := CRs cu
  have szd : w8.drew.heap.size = w8.heap.size := rfl
  have sz9 : (w8.drew.alloc (.cells #[] 59)).heap.size = w8.heap.size + 1 := by simp
  have hk : ∀ b, b < w8.heap.size → w10.heap[b]? = w8.heap[b]? := fun b hb => (hg.block b (by omega) (by intro e; injection e with e; omega)).trans (b89.block b hb)
  have hz3 : Bk w10 w3.heap.size #[.slice a2 nT2.words.length c2, .slice (some ⟨gr, 0, none⟩) 2 2, .int .i64 nT2.old, .int .i64 nT2.eden, .int .i64 nT2.surv, .bool nT2.flip, .int .i64 nT2.hash, .slice e2 nT2.kept.length f2] 28 := (hk _ X8.lt).trans X8
  have R10 : Bk w10 w.heap.size #[.slice none 0 0, .slice none 0 0, .int .i64 0, .int .i64 0, .int .i64 0, .bool false, .int .i64 0, .slice none 0 0, .slice none 0 0, .int .i64 0, .slice none 0 0, .int .i64 0] 30 := (hk _ R8.lt).trans R8
  have bw10 : Below w.heap.size w w10 := Below.grown bw9 hg bw9.size (fun q hq => by cases hq; have := bw8.size; omega)
  have z10 := hg.size
  refine Disk.z_run 3 32 (w' := w10) (v := .slice ua pr.length uc) rfl rfl (by kernel_rfl) (by rfl) (exec_appK _ _ rfl _ _ rfl rfl run) (.inr hz3) ?_
  simp only [List.setIfInBounds_toArray, List.set_cons_zero, List.set_cons_succ]
  have hrow' : ∀ b, Disk.rowOf (.slice ua pr.length uc) pr.length = some b → gr < b := fun b hb => by have := hrow b hb; omega
  clear run hz hz1 OE
  refine Disk.z_take 4 33 (v := .agg #[.slice a2 nT2.words.length c2, .slice (some ⟨gr, 0, none⟩) 2 2, .int .i64 nT2.old, .int .i64 nT2.eden, .int .i64 nT2.surv, .bool nT2.flip, .int .i64 nT2.hash, .slice e2 nT2.kept.length f2, .slice ua pr.length uc, .int .i64 0, .slice none 0 0, .int .i64 0]) rfl rfl (by kernel_rfl) (by kernel_rfl) (by kernel_rfl) (by kernel_rfl) (by rfl) hz3 (fun W' hSw => (by
    clear hSw
    go_simp; first | done | with_reducible rfl)) ?_
  simp only [List.setIfInBounds_toArray, List.set_cons_zero, List.set_cons_succ]
  have OKV : (#[.slice a2 nT2.words.length c2, .slice (some ⟨gr, 0, none⟩) 2 2, .int .i64 nT2.old, .int .i64 nT2.eden, .int .i64 nT2.surv, .bool nT2.flip, .int .i64 nT2.hash, .slice e2 nT2.kept.length f2, .slice ua pr.length uc, .int .i64 0, .slice none 0 0, .int .i64 0] : Array Value).all (·.oneCell') = true := by simp [Value.oneCell']
  obtain ⟨w12, run12, R12, g12, z12⟩ := R10.store 30 #[.slice a2 nT2.words.length c2, .slice (some ⟨gr, 0, none⟩) 2 2, .int .i64 nT2.old, .int .i64 nT2.eden, .int .i64 nT2.surv, .bool nT2.flip, .int .i64 nT2.hash, .slice e2 nT2.kept.length f2, .slice ua pr.length uc, .int .i64 0, .slice none 0 0, .int .i64 0] (by simp) (by kernel_rfl) OKV
  have X12 := hz3.off g12 (by intro e; injection e with e; omega)
  have bw12 : Below w.heap.size w w12 := Below.grown bw10 g12 bw10.size (fun q hq => by cases hq; omega)
  have hk2 : ∀ b, w.heap.size + 1 ≤ b → b < w8.heap.size → w12.heap[b]? = w8.heap[b]? := fun b h1 h2 => (g12.block b (by omega) (by intro e; injection e with e; omega)).trans (hk b h2)
  have cu12 := cu.keepR (w' := w12) (B := w.heap.size + 1) (S := w10.heap.size) (fun b h1 h2 => g12.block b h2 (by intro e; injection e with e; omega)) (fun b hb => ⟨by have := hrow' b hb; omega, su.row b hb⟩)
  have su12 := OS.keepC su (w' := w12) (B := w.heap.size + 1) (S := w10.heap.size) (fun b h1 h2 => g12.block b h2 (by intro e; injection e with e; omega)) (fun b hb => ⟨by have := hrow' b hb; omega, su.row b hb⟩)
  have RR12 := RR8.block (hk2 gr (by omega) RR8.lt)
  have kB : ∀ b, w3.heap.size + 1 ≤ b → b < w8.heap.size → w12.heap[b]? = w8.heap[b]? := fun b h1 h2 => hk2 b (by omega) h2
  have t1x := t1.keepR kB (fun b hb => ⟨by have := lo1 b hb; omega, s1.row b hb⟩)
  have s1x := OS.keepC s1 kB (fun b hb => ⟨by have := lo1 b hb; omega, s1.row b hb⟩)
  have t3x := t3.keepR kB (fun b hb => ⟨by have := lo3 b hb; omega, s3.row b hb⟩)
  have s3x := OS.keepC s3 kB (fun b hb => ⟨by have := lo3 b hb; omega, s3.row b hb⟩)
  have VNK : VN w.heap.size w12 (.agg #[.slice a2 nT2.words.length c2, .slice (some ⟨gr, 0, none⟩) 2 2, .int .i64 nT2.old, .int .i64 nT2.eden, .int .i64 nT2.surv, .bool nT2.flip, .int .i64 nT2.hash, .slice e2 nT2.kept.length f2, .slice ua pr.length uc, .int .i64 0, .slice none 0 0, .int .i64 0]) ⟨{ nT2 with roots := [4001, 4089] }, pr, 0, [], 0⟩ := by
    have hnx : HN w.heap.size w12 (.agg #[.slice a2 nT2.words.length c2, .slice (some ⟨gr, 0, none⟩) 2 2, .int .i64 nT2.old, .int .i64 nT2.eden, .int .i64 nT2.surv, .bool nT2.flip, .int .i64 nT2.hash, .slice e2 nT2.kept.length f2]) { nT2 with roots := [4001, 4089] } := by
      refine ⟨_, _, _, rfl, ⟨s1x, RR12.os, s3x⟩, ⟨t1x, RR12.ir (Nat.le_refl _), t3x⟩, ⟨fun b hb => by have := lo1 b hb; omega, fun b hb => by have := rowof hb; omega, fun b hb => by have := lo3 b hb; omega⟩, fun b hb e => ?_, q13, fun b hb e => ?_⟩
      · have := rowof e
        have := hi6 b (.inl hb)
        omega
      · have := rowof hb
        have := hi6 b (.inr e)
        omega
    refine ⟨⟨_, _, _, _, _, rfl, hnx, ⟨cu12, su12⟩, ⟨⟨_, _, rfl, Nat.le_refl _, fun i hi => absurd hi (Nat.not_lt_zero i)⟩, ⟨_, _, rfl, .inl rfl⟩⟩, fun b hb => ?_, fun b hb => (zero_row hb).elim⟩⟩
    have lb := hrow' b hb
    exact ⟨by omega, fun e => by have := hi6 _ (.inl e); omega, fun e => by have := rowof e; omega, fun e => by have := hi6 _ (.inr e); omega, fun e => (zero_row e).elim⟩
  clear cu su cu12 su12 RR8 RR12 t1 t2 t3 s1 s2 s3 t1x s1x t3x s3x hi6 hrow hrow' hk hk2 kB h8 R8 X8 R10 g12 OKV hg lo1 lo2 lo3 q13
  refine Disk.z_skip 5 rfl rfl (by kernel_rfl) (by rfl) (exec_storeQ rfl rfl rfl run12) (.inr X12) ?_
  refine Disk.z_take 6 3 (v := .bool true) rfl rfl (by kernel_rfl) (by kernel_rfl) (by kernel_rfl) (by kernel_rfl) (by rfl) X12 (fun W' hSw => (by
    clear hSw
    go_simp; first | done | with_reducible rfl)) ?_
  simp only [List.setIfInBounds_toArray, List.set_cons_zero, List.set_cons_succ]
  refine Disk.z_done (by kernel_rfl) ?_ _
  have r0 := R12.cell 0 (.slice a2 nT2.words.length c2) rfl
  have r1 := R12.cell 1 (.slice (some ⟨gr, 0, none⟩) 2 2) rfl
  have r2 := R12.cell 2 (.int .i64 nT2.old) rfl
  have r3 := R12.cell 3 (.int .i64 nT2.eden) rfl
  have r4 := R12.cell 4 (.int .i64 nT2.surv) rfl
  have r5 := R12.cell 5 (.bool nT2.flip) rfl
  have r6 := R12.cell 6 (.int .i64 nT2.hash) rfl
  have r7 := R12.cell 7 (.slice e2 nT2.kept.length f2) rfl
  have r8 := R12.cell 8 (.slice ua pr.length uc) rfl
  have r9 := R12.cell 9 (.int .i64 0) rfl
  have r10 := R12.cell 10 (.slice none 0 0) rfl
  have r11 := R12.cell 11 (.int .i64 0) rfl
  clear X12 run12 hz3
  go_wp2
  exact bodyPost_ret (v := .tuple #[.agg #[.slice a2 nT2.words.length c2, .slice (some ⟨gr, 0, none⟩) 2 2, .int .i64 nT2.old, .int .i64 nT2.eden, .int .i64 nT2.surv, .bool nT2.flip, .int .i64 nT2.hash, .slice e2 nT2.kept.length f2, .slice ua pr.length uc, .int .i64 0, .slice none 0 0, .int .i64 0], .bool true]) (by simp [results, Tryz.results10, go_sem, r0, r1, r2, r3, r4, r5, r6, r7, r8, r9, r10, r11]) rfl ⟨⟨_, by rw [PB.out], by rw [eM.out]; exact VNK⟩, bw12⟩

end Go.Proofs.YtgacacbncefeaaaGreat

/- markVm and heldVm of the laws. -/
namespace Go.Proofs.YtgacacbncefeaaaGreat
open Go.RowKit

/-- w' is w with new blocks, and with writes to blocks of R alone. -/
structure Only (w w' : World) (R : Nat → Prop) : Prop where
  os : w'.os = w.os
  tape : w'.tape = w.tape
  output : w'.output = w.output
  size : w.heap.size ≤ w'.heap.size
  block : ∀ k, k < w.heap.size → ¬ R k → w'.heap[k]? = w.heap[k]?
theorem Only.of_below {w w' : World} {R : Nat → Prop} (h : Below w.heap.size w w') : Only w w' R := ⟨h.os, h.tape, h.output, h.size, fun k hk _ => h.block k hk⟩
theorem Only.of_grown {w w' : World} {R : Nat → Prop} {r : Option Nat} (h : w.grownBy w' r) (hr : ∀ k, r = some k → R k) : Only w w' R := ⟨h.os, h.tape, h.output, h.size, fun k hk n => h.block k hk (fun e => n (hr k e.symm))⟩
theorem Only.of_thr {w w' : World} {R : Nat → Prop} {r1 r2 r3 : Option Nat} (h : Thr w w' r1 r2 r3) (h1 : ∀ k, r1 = some k → R k) (h2 : ∀ k, r2 = some k → R k) (h3 : ∀ k, r3 = some k → R k) : Only w w' R :=
  ⟨h.os, h.tape, h.output, h.size, fun k hk n => h.block k hk (fun e => n (h1 k e.symm)) (fun e => n (h2 k e.symm)) (fun e => n (h3 k e.symm))⟩
theorem Only.trans {a b c : World} {R : Nat → Prop} (h : Only a b R) (k : Only b c R) : Only a c R :=
  ⟨k.os.trans h.os, k.tape.trans h.tape, k.output.trans h.output, Nat.le_trans h.size k.size, fun i hi n => (k.block i (Nat.lt_of_lt_of_le hi h.size) n).trans (h.block i hi n)⟩
theorem Only.below {w w' : World} {R : Nat → Prop} {B : Nat} (h : Only w w' R) (hB : B ≤ w.heap.size) (hr : ∀ k, R k → B ≤ k) : Below B w w' :=
  ⟨h.os, h.tape, h.output, h.size, fun k hk => h.block k (by omega) (fun e => by have := hr k e; omega)⟩

def VRow (v : Value) (m : Mp) (b : Nat) : Prop := ∃ v1 v2 v3 vp vo, v = .agg #[v1, v2, .int .i64 m.h.old, .int .i64 m.h.eden, .int .i64 m.h.surv, .bool m.h.flip, .int .i64 m.h.hash, v3, vp, .int .i64 m.pc, vo, .int .i64 m.st] ∧ (Disk.rowOf v1 m.h.words.length = some b ∨ Disk.rowOf v2 m.h.roots.length = some b ∨ Disk.rowOf v3 m.h.kept.length = some b ∨ Disk.rowOf vp m.prog.length = some b ∨ Disk.rowOf vo m.out.length = some b)
theorem VN.row {B b : Nat} {w : World} {v : Value} {m : Mp} (k : VN B w v m) (h : VRow v m b) : B ≤ b ∧ b < w.heap.size := by
  obtain ⟨v1, v2, v3, vp, vo, rfl, hh, ⟨_, op⟩, ⟨_, oo⟩, r1, r2⟩ := k.ex
  obtain ⟨u1, u2, u3, up, uo, e, h⟩ := h
  injection e with e
  simp only [Array.mk.injEq, List.cons.injEq, and_true, true_and] at e
  obtain ⟨rfl, rfl, rfl, rfl, rfl⟩ := e
  obtain ⟨⟨o1, o2, o3⟩, _, ⟨b1, b2, b3⟩, _⟩ := hh.irs
  rcases h with h | h | h | h | h
  · exact ⟨b1 b h, o1.row b h⟩
  · exact ⟨b2 b h, o2.row b h⟩
  · exact ⟨b3 b h, o3.row b h⟩
  · exact ⟨(r1 b h).1, op.row b h⟩
  · exact ⟨(r2 b h).1, oo.row b h⟩
/-- Its rows hold their marks. -/
def MK (w : World) (v : Value) (m : Mp) : Prop := ∃ v1 v2 v3 vp vo, v = .agg #[v1, v2, .int .i64 m.h.old, .int .i64 m.h.eden, .int .i64 m.h.surv, .bool m.h.flip, .int .i64 m.h.hash, v3, vp, .int .i64 m.pc, vo, .int .i64 m.st] ∧ IR w v1 (imarks 1 m.h.words.length) ∧ IR w v2 (imarks (1 + (m.h.words.length : Int)) m.h.roots.length) ∧ IR w v3 (imarks (1 + (m.h.words.length : Int) + m.h.roots.length) m.h.kept.length) ∧ CR w vp (cmarks (1 + (m.h.words.length : Int) + m.h.roots.length + m.h.kept.length) m.prog.length) ∧ IR w vo (imarks (1 + (m.h.words.length : Int) + m.h.roots.length + m.h.kept.length + 2 * m.prog.length) m.out.length)
theorem MK.later {w w' : World} {v : Value} {m : Mp} (h : MK w v m) (hb : Below w.heap.size w w') : MK w' v m := by
  obtain ⟨v1, v2, v3, vp, vo, e, a, b, c, d, f⟩ := h
  exact ⟨v1, v2, v3, vp, vo, e, a.later hb, b.later hb, c.later hb, d.later hb, f.later hb⟩

def kTot (m : Mp) : Int := (1 + (m.h.words.length : Int) + m.h.roots.length + m.h.kept.length + 2 * m.prog.length + m.out.length)
theorem OS.keepT {w w' : World} {t s n : Nat} {v : Value} {r1 r2 r3 : Option Nat} (h : Disk.OS w t s v n) (T : Thr w w' r1 r2 r3) (hr : ∀ b, Disk.rowOf v n = some b → some b ≠ r1 ∧ some b ≠ r2 ∧ some b ≠ r3) : Disk.OS w' t s v n := by
  obtain ⟨ao, cap, rfl, h⟩ := h
  refine ⟨ao, cap, rfl, ?_⟩
  by_cases h0 : n = 0
  · exact .inl h0
  · obtain ⟨b, N, f, rfl, hN, hrow⟩ := h.resolve_left h0
    have q := hr b (by unfold Disk.rowOf; rw [if_neg h0]; rfl)
    exact .inr ⟨b, N, f, rfl, hN, hrow.of_block (T.block b hrow.lt q.1 q.2.1 q.2.2)⟩
theorem apartC {w : World} {t s n mm : Nat} {v u : Value} (d : ∀ b, Disk.rowOf v n = some b → Disk.rowOf u mm ≠ some b) (hv : Disk.OS w t s v n) : n = 0 ∨ v.ownBlock ≠ Disk.rowOf u mm := apart' d hv
theorem inil {k : Int} {n mm : Nat} {v u : Value} (h : n = 0 ∨ v.ownBlock ≠ Disk.rowOf u mm) : imarks k n = [] ∨ v.ownBlock ≠ Disk.rowOf u mm := marks_nil h
theorem cnil {k : Int} {n mm : Nat} {v u : Value} (h : n = 0 ∨ v.ownBlock ≠ Disk.rowOf u mm) : cmarks k n = [] ∨ v.ownBlock ≠ Disk.rowOf u mm := h.elim (fun e => .inl (by rw [e]; rfl)) .inr

set_option maxRecDepth 100000 in
set_option maxHeartbeats 1600000 in
theorem markVm_any (B : Nat) (v : Value) (m : Mp) (w : World) (k : VN B w v m) (hs : smM m 1000000000) :
    Calls Tryz.prog 19 #[v, .int .i64 1] w fun e w' => e = .returned (.int .i64 (kTot m)) ∧ Only w w' (VRow v m) ∧ MK w' v m := by
  have kr := fun b h => k.row (b := b) h
  obtain ⟨v1, v2, v3, vp, vo, rfl, hh, ⟨rp, op⟩, ⟨ro, oo⟩, d1, d2⟩ := k.ex
  obtain ⟨⟨o1, o2, o3⟩, ⟨i1, i2, i3⟩, _, d12, d13, d23⟩ := hh.irs
  obtain ⟨s1, s2, s3, s4, s5⟩ := hs
  have hb0 := bel_one w (.cells #[v1, v2, .int .i64 m.h.old, .int .i64 m.h.eden, .int .i64 m.h.surv, .bool m.h.flip, .int .i64 m.h.hash, v3, vp, .int .i64 m.pc, vo, .int .i64 m.st] 30)
  have B0 : Bk (w.alloc (.cells #[v1, v2, .int .i64 m.h.old, .int .i64 m.h.eden, .int .i64 m.h.surv, .bool m.h.flip, .int .i64 m.h.hash, v3, vp, .int .i64 m.pc, vo, .int .i64 m.st] 30)) w.heap.size #[v1, v2, .int .i64 m.h.old, .int .i64 m.h.eden, .int .i64 m.h.surv, .bool m.h.flip, .int .i64 m.h.hash, v3, vp, .int .i64 m.pc, vo, .int .i64 m.st] 30 := Bk.new w _ _
  have x0 := B0.cell 0 (v1) rfl
  have x1 := B0.cell 1 (v2) rfl
  have x2 := B0.cell 2 (.int .i64 m.h.old) rfl
  have x3 := B0.cell 3 (.int .i64 m.h.eden) rfl
  have x4 := B0.cell 4 (.int .i64 m.h.surv) rfl
  have x5 := B0.cell 5 (.bool m.h.flip) rfl
  have x6 := B0.cell 6 (.int .i64 m.h.hash) rfl
  have x7 := B0.cell 7 (v3) rfl
  have x8 := B0.cell 8 (vp) rfl
  have x9 := B0.cell 9 (.int .i64 m.pc) rfl
  have x10 := B0.cell 10 (vo) rfl
  have x11 := B0.cell 11 (.int .i64 m.st) rfl
  have nb : ∀ b, VRow (.agg #[v1, v2, .int .i64 m.h.old, .int .i64 m.h.eden, .int .i64 m.h.surv, .bool m.h.flip, .int .i64 m.h.hash, v3, vp, .int .i64 m.pc, vo, .int .i64 m.st]) m b → b ≠ w.heap.size := fun b h e => by have := (kr b h).2; omega
  have n1 : some w.heap.size ≠ Disk.rowOf v1 m.h.words.length := fun e => nb _ ⟨_, _, _, _, _, rfl, .inl e.symm⟩ rfl
  have n2 : some w.heap.size ≠ Disk.rowOf v2 m.h.roots.length := fun e => nb _ ⟨_, _, _, _, _, rfl, .inr (.inl e.symm)⟩ rfl
  have n3 : some w.heap.size ≠ Disk.rowOf v3 m.h.kept.length := fun e => nb _ ⟨_, _, _, _, _, rfl, .inr (.inr (.inl e.symm))⟩ rfl
  have n4 : some w.heap.size ≠ Disk.rowOf vp m.prog.length := fun e => nb _ ⟨_, _, _, _, _, rfl, .inr (.inr (.inr (.inl e.symm)))⟩ rfl
  have q1 : ∀ b, Disk.rowOf v1 m.h.words.length = some b → VRow (.agg #[v1, v2, .int .i64 m.h.old, .int .i64 m.h.eden, .int .i64 m.h.surv, .bool m.h.flip, .int .i64 m.h.hash, v3, vp, .int .i64 m.pc, vo, .int .i64 m.st]) m b := fun b e => ⟨_, _, _, _, _, rfl, .inl e⟩
  have q2 : ∀ b, Disk.rowOf v2 m.h.roots.length = some b → VRow (.agg #[v1, v2, .int .i64 m.h.old, .int .i64 m.h.eden, .int .i64 m.h.surv, .bool m.h.flip, .int .i64 m.h.hash, v3, vp, .int .i64 m.pc, vo, .int .i64 m.st]) m b := fun b e => ⟨_, _, _, _, _, rfl, .inr (.inl e)⟩
  have q3 : ∀ b, Disk.rowOf v3 m.h.kept.length = some b → VRow (.agg #[v1, v2, .int .i64 m.h.old, .int .i64 m.h.eden, .int .i64 m.h.surv, .bool m.h.flip, .int .i64 m.h.hash, v3, vp, .int .i64 m.pc, vo, .int .i64 m.st]) m b := fun b e => ⟨_, _, _, _, _, rfl, .inr (.inr (.inl e))⟩
  have q4 : ∀ b, Disk.rowOf vp m.prog.length = some b → VRow (.agg #[v1, v2, .int .i64 m.h.old, .int .i64 m.h.eden, .int .i64 m.h.surv, .bool m.h.flip, .int .i64 m.h.hash, v3, vp, .int .i64 m.pc, vo, .int .i64 m.st]) m b := fun b e => ⟨_, _, _, _, _, rfl, .inr (.inr (.inr (.inl e)))⟩
  have q5 : ∀ b, Disk.rowOf vo m.out.length = some b → VRow (.agg #[v1, v2, .int .i64 m.h.old, .int .i64 m.h.eden, .int .i64 m.h.surv, .bool m.h.flip, .int .i64 m.h.hash, v3, vp, .int .i64 m.pc, vo, .int .i64 m.st]) m b := fun b e => ⟨_, _, _, _, _, rfl, .inr (.inr (.inr (.inr e)))⟩
  have MH := markHeap_any v1 v2 v3 m.h 1 _ (o1.later hb0) (o2.later hb0) (o3.later hb0) (i1.later hb0) (i2.later hb0) (i3.later hb0) d12 d13 d23 (by omega) (by omega) (by omega) (by omega) (by omega)
  have zp := CRs rp
  have zo := IRs ro
  unfold kTot
  generalize hRR : VRow (.agg #[v1, v2, .int .i64 m.h.old, .int .i64 m.h.eden, .int .i64 m.h.surv, .bool m.h.flip, .int .i64 m.h.hash, v3, vp, .int .i64 m.pc, vo, .int .i64 m.st]) m = RR at *
  go_enter Tryz.func19, Tryz.ntmps19
  go_wp2_with fail
  refine MH.mono ?_
  clear MH x0 x1 x2 x3 x4 x5 x6 x7 x8 x9 x10 x11 nb kr
  rintro e w1 ⟨rfl, T1, m1, m2, m3⟩
  have O1 : Only w w1 RR := (Only.of_below hb0).trans (Only.of_thr T1 q1 q2 q3)
  have B1 : Bk w1 w.heap.size #[v1, v2, .int .i64 m.h.old, .int .i64 m.h.eden, .int .i64 m.h.surv, .bool m.h.flip, .int .i64 m.h.hash, v3, vp, .int .i64 m.pc, vo, .int .i64 m.st] 30 := (T1.block _ B0.lt n1 n2 n3).trans B0
  have opx : Disk.OS w1 59 2 vp m.prog.length := by
    have p0 := op.later hb0
    exact OS.keepT p0 T1 (fun b e => ⟨fun f => (d1 b e).2.1 f.symm, fun f => (d1 b e).2.2.1 f.symm, fun f => (d1 b e).2.2.2.1 f.symm⟩)
  have oox : Disk.OS w1 2 1 vo m.out.length := by
    have p0 := oo.later hb0
    exact OS.keepT p0 T1 (fun b e => ⟨fun f => (d2 b e).2.1 f.symm, fun f => (d2 b e).2.2.1 f.symm, fun f => (d2 b e).2.2.2 f.symm⟩)
  have MC := markCodes_any vp m.prog.length (1 + (m.h.words.length : Int) + m.h.roots.length + m.h.kept.length) w1 opx (by obtain ⟨a, c, e, f⟩ := zp; exact ⟨a, c, e, f⟩) (by omega) (by omega)
  have x8 := B1.cell 8 vp rfl
  go_wp2_with fail
  refine MC.mono ?_
  clear MC x8
  rintro e w2 ⟨rfl, g2, m4⟩
  have O2 : Only w w2 RR := O1.trans (Only.of_grown g2 q4)
  have B2 := B1.off g2 n4
  have x10 := B2.cell 10 vo rfl
  have ooy := oox.grown g2 (apartC (fun b e f => (d1 b f).2.2.2.2 e) oo)
  have p1 := m1.grown g2 (inil (apartC (fun b e f => (d1 b f).2.1 e) o1))
  have p2 := m2.grown g2 (inil (apartC (fun b e f => (d1 b f).2.2.1 e) o2))
  have p3 := m3.grown g2 (inil (apartC (fun b e f => (d1 b f).2.2.2.1 e) o3))
  have MI := markInt64S_any vo m.out.length (1 + (m.h.words.length : Int) + m.h.roots.length + m.h.kept.length + 2 * m.prog.length) w2 ooy (by obtain ⟨a, c, e, f⟩ := zo; exact ⟨a, c, e, f⟩) (by omega) (by omega)
  clear B0 B1 m1 m2 m3 opx oox
  go_wp2_with fail
  refine MI.mono ?_
  clear MI x10
  rintro e w3 ⟨rfl, g3, m5⟩
  have O3 : Only w w3 RR := O2.trans (Only.of_grown g3 q5)
  have r1 := p1.grown g3 (inil (apartC (fun b e f => (d2 b f).2.1 e) o1))
  have r2 := p2.grown g3 (inil (apartC (fun b e f => (d2 b f).2.2.1 e) o2))
  have r3 := p3.grown g3 (inil (apartC (fun b e f => (d2 b f).2.2.2 e) o3))
  have r4 := m4.grown g3 (cnil (apartC (fun b e f => (d1 b e).2.2.2.2 f) op))
  go_wp2
  go_ret
  exact ⟨rfl, O3, ⟨_, _, _, _, _, rfl, r1, r2, r3, r4, m5⟩⟩

set_option maxRecDepth 100000 in
set_option maxHeartbeats 1600000 in
theorem heldVm_any (v : Value) (m : Mp) (w : World) (k : MK w v m) (hs : smM m 1000000000) :
    Calls Tryz.prog 20 #[v, .int .i64 1] w fun e w' => e = .returned (.int .i64 (kTot m)) ∧ Below w.heap.size w w' := by
  obtain ⟨v1, v2, v3, vp, vo, rfl, m1, m2, m3, m4, m5⟩ := k
  obtain ⟨s1, s2, s3, s4, s5⟩ := hs
  have hb0 := bel_one w (.cells #[v1, v2, .int .i64 m.h.old, .int .i64 m.h.eden, .int .i64 m.h.surv, .bool m.h.flip, .int .i64 m.h.hash, v3, vp, .int .i64 m.pc, vo, .int .i64 m.st] 30)
  have B0 : Bk (w.alloc (.cells #[v1, v2, .int .i64 m.h.old, .int .i64 m.h.eden, .int .i64 m.h.surv, .bool m.h.flip, .int .i64 m.h.hash, v3, vp, .int .i64 m.pc, vo, .int .i64 m.st] 30)) w.heap.size #[v1, v2, .int .i64 m.h.old, .int .i64 m.h.eden, .int .i64 m.h.surv, .bool m.h.flip, .int .i64 m.h.hash, v3, vp, .int .i64 m.pc, vo, .int .i64 m.st] 30 := Bk.new w _ _
  have x0 := B0.cell 0 (v1) rfl
  have x1 := B0.cell 1 (v2) rfl
  have x2 := B0.cell 2 (.int .i64 m.h.old) rfl
  have x3 := B0.cell 3 (.int .i64 m.h.eden) rfl
  have x4 := B0.cell 4 (.int .i64 m.h.surv) rfl
  have x5 := B0.cell 5 (.bool m.h.flip) rfl
  have x6 := B0.cell 6 (.int .i64 m.h.hash) rfl
  have x7 := B0.cell 7 (v3) rfl
  have x8 := B0.cell 8 (vp) rfl
  have x9 := B0.cell 9 (.int .i64 m.pc) rfl
  have x10 := B0.cell 10 (vo) rfl
  have x11 := B0.cell 11 (.int .i64 m.st) rfl
  have HH := heldHeap_any v1 v2 v3 m.h 1 _ (m1.later hb0) (m2.later hb0) (m3.later hb0) (by omega) (by omega) (by omega) (by omega) (by omega)
  unfold kTot
  go_enter Tryz.func20, Tryz.ntmps20
  go_wp2_with fail
  refine HH.mono ?_
  clear HH x0 x1 x2 x3 x4 x5 x6 x7 x8 x9 x10 x11
  rintro e w1 ⟨rfl, hb1⟩
  have bw1 := bel_after hb0 hb1
  have B1 := B0.later hb1
  have x8 := B1.cell 8 vp rfl
  have HC := heldCodes_any vp m.prog.length (1 + (m.h.words.length : Int) + m.h.roots.length + m.h.kept.length) w1 (m4.later bw1) (by omega) (by omega)
  go_wp2_with fail
  refine HC.mono ?_
  clear HC x8
  rintro e w2 ⟨rfl, hb2⟩
  have bw2 := bel_after bw1 hb2
  have B2 := B1.later hb2
  have x10 := B2.cell 10 vo rfl
  have HI := heldInt64S_any vo m.out.length (1 + (m.h.words.length : Int) + m.h.roots.length + m.h.kept.length + 2 * m.prog.length) w2 (m5.later bw2) (by omega) (by omega)
  go_wp2_with fail
  refine HI.mono ?_
  clear HI x10
  rintro e w3 ⟨rfl, hb3⟩
  go_wp2
  go_ret
  exact ⟨rfl, bel_after bw2 hb3⟩

end Go.Proofs.YtgacacbncefeaaaGreat

/- The law of NewVm. -/
namespace Go.Proofs.YtgacacbncefeaaaGreat
open Go.RowKit

theorem nvR_sm (pr : List Cd) (h : pr.length ≤ 1048576) : smM (nvR pr) 1000000000 := by
  obtain ⟨_, _, _, l1, l2, l3⟩ := nT_len
  unfold nvR
  split
  · exact ⟨by show nT4.words.length ≤ _; omega, by show nT4.roots.length ≤ _; omega, by show nT4.kept.length ≤ _; omega, by show pr.length ≤ _; omega, by show ([] : List Int).length ≤ _; simp⟩
  · exact ⟨by show ([] : List Int).length ≤ _; simp, by show ([] : List Int).length ≤ _; simp, by show ([] : List Int).length ≤ _; simp, by show ([] : List Cd).length ≤ _; simp, by show ([] : List Int).length ≤ _; simp⟩
theorem VN.keepR {B S : Nat} {w w' : World} {v : Value} {m : Mp} (k : VN B w v m) (hk : ∀ b, B ≤ b → b < S → w'.heap[b]? = w.heap[b]?) (hr : ∀ b, VRow v m b → b < S) : VN B w' v m := by
  have kr := fun b h => k.row (b := b) h
  obtain ⟨v1, v2, v3, vp, vo, rfl, hh, ⟨rp, op⟩, ⟨ro, oo⟩, d1, d2⟩ := k.ex
  obtain ⟨⟨o1, o2, o3⟩, ⟨i1, i2, i3⟩, bs, ds⟩ := hh.irs
  have q1 : ∀ b, Disk.rowOf v1 m.h.words.length = some b → B ≤ b ∧ b < S := fun b e => ⟨(kr b ⟨_, _, _, _, _, rfl, .inl e⟩).1, hr b ⟨_, _, _, _, _, rfl, .inl e⟩⟩
  have q2 : ∀ b, Disk.rowOf v2 m.h.roots.length = some b → B ≤ b ∧ b < S := fun b e => ⟨(kr b ⟨_, _, _, _, _, rfl, .inr (.inl e)⟩).1, hr b ⟨_, _, _, _, _, rfl, .inr (.inl e)⟩⟩
  have q3 : ∀ b, Disk.rowOf v3 m.h.kept.length = some b → B ≤ b ∧ b < S := fun b e => ⟨(kr b ⟨_, _, _, _, _, rfl, .inr (.inr (.inl e))⟩).1, hr b ⟨_, _, _, _, _, rfl, .inr (.inr (.inl e))⟩⟩
  have q4 : ∀ b, Disk.rowOf vp m.prog.length = some b → B ≤ b ∧ b < S := fun b e => ⟨(kr b ⟨_, _, _, _, _, rfl, .inr (.inr (.inr (.inl e)))⟩).1, hr b ⟨_, _, _, _, _, rfl, .inr (.inr (.inr (.inl e)))⟩⟩
  have q5 : ∀ b, Disk.rowOf vo m.out.length = some b → B ≤ b ∧ b < S := fun b e => ⟨(kr b ⟨_, _, _, _, _, rfl, .inr (.inr (.inr (.inr e)))⟩).1, hr b ⟨_, _, _, _, _, rfl, .inr (.inr (.inr (.inr e)))⟩⟩
  exact ⟨⟨v1, v2, v3, vp, vo, rfl, ⟨_, _, _, rfl, ⟨OS.keepC o1 hk q1, OS.keepC o2 hk q2, OS.keepC o3 hk q3⟩, ⟨i1.keepR hk q1, i2.keepR hk q2, i3.keepR hk q3⟩, bs, ds⟩, ⟨rp.keepR hk q4, OS.keepC op hk q4⟩, ⟨ro.keepR hk q5, OS.keepC oo hk q5⟩, d1, d2⟩⟩
theorem rowC {g n cap b : Nat} (h : Disk.rowOf (.slice (some ⟨g, 0, none⟩) n cap) n = some b) : b = g := rowof h

set_option maxRecDepth 100000 in
set_option maxHeartbeats 3200000 in
theorem lawNewVm_any (vp : Value) (pr : List Cd) (w : World) (ip : CR w vp pr) (hs : pr.length ≤ 1000000000000000) :
    Calls Tryz.prog 4 #[vp] w fun e w' => e = .returned (.bool true) ∧ Below w.heap.size w w' := by
  have SZ := fun W (hb : Below w.heap.size w W) => szCodeS_any vp pr 1048576 W (ip.later hb) hs (by omega) (by omega)
  go_enter Tryz.func4, Tryz.ntmps4
  go_wp2_with fail
  refine (SZ _ (Below.refl _ _)).mono ?_
  rintro e w1 ⟨⟨y, rfl, hy⟩, hb1⟩
  replace hy : Hid (0 ≤ y → y = 1048576 - pr.length ∧ (pr.length : Int) ≤ 1048576) := hy
  clear SZ
  by_cases hn : y < 0
  · clear hy
    go_wp2
    go_ret
    exact ⟨rfl, hb1⟩
  have sm := (hy.out (by omega)).2
  have sm9 : Hid (smM (nvR pr) 1000000000) := nvR_sm pr (by omega)
  have hl9 : Hid (pr.length ≤ 1100000) := (by omega : pr.length ≤ 1100000)
  have TC := fun W (hb : Below w.heap.size w W) => toCodes_any vp pr W (ip.later hb) (by omega)
  have SN := fun v W (h : CR W v pr) => specNewVm_any v pr W h (by omega)
  have IN := fun v W (h : CR W v pr) => implNewVm_any v pr W h (by omega)
  obtain ⟨M, hM⟩ : ∃ M, M = nvR pr := ⟨_, rfl⟩
  rw [← hM] at SN IN sm9
  have bb : (progB pr != progB pr) = false := by simp
  generalize progB pr = B at *
  clear hM hy sm hs ip
  go_wp2_with fail
  refine (TC _ hb1).mono ?_
  rintro e w2 ⟨⟨rfl, rc2⟩, hb2, -⟩
  have bw2 := bel_after hb1 hb2
  have C := SN _ w2 (rc2.cr (Nat.le_refl _))
  clear SN rc2
  go_wp2_with fail
  refine C.mono ?_
  clear C
  rintro e w3 ⟨⟨u, rfl, h3⟩, hb3⟩
  have bw3 := bel_after bw2 hb3
  have rw3 := fun b (h : VRow u M b) => (h3.row h).2
  obtain ⟨u1, u2, u3, up, uo, rfl, k1, k2, k3, kp, ko⟩ := h3.vr
  obtain ⟨a3, c3, rfl, -⟩ := IRs k1
  obtain ⟨b3, d3, rfl, -⟩ := IRs k2
  obtain ⟨e3, f3, rfl, -⟩ := IRs k3
  obtain ⟨p3, q3, rfl, -⟩ := CRs kp
  obtain ⟨o3, r3, rfl, -⟩ := IRs ko
  clear k1 k2 k3 kp ko
  have al := bel_one w3 (.cells #[.slice a3 M.h.words.length c3, .slice b3 M.h.roots.length d3, .int .i64 M.h.old, .int .i64 M.h.eden, .int .i64 M.h.surv, .bool M.h.flip, .int .i64 M.h.hash, .slice e3 M.h.kept.length f3, .slice p3 M.prog.length q3, .int .i64 M.pc, .slice o3 M.out.length r3, .int .i64 M.st] 30)
  have X4 : Bk (w3.alloc (.cells #[.slice a3 M.h.words.length c3, .slice b3 M.h.roots.length d3, .int .i64 M.h.old, .int .i64 M.h.eden, .int .i64 M.h.surv, .bool M.h.flip, .int .i64 M.h.hash, .slice e3 M.h.kept.length f3, .slice p3 M.prog.length q3, .int .i64 M.pc, .slice o3 M.out.length r3, .int .i64 M.st] 30)) w3.heap.size #[.slice a3 M.h.words.length c3, .slice b3 M.h.roots.length d3, .int .i64 M.h.old, .int .i64 M.h.eden, .int .i64 M.h.surv, .bool M.h.flip, .int .i64 M.h.hash, .slice e3 M.h.kept.length f3, .slice p3 M.prog.length q3, .int .i64 M.pc, .slice o3 M.out.length r3, .int .i64 M.st] 30 := Bk.new w3 _ _
  have h4 := h3.later al
  have bw4 := bel_after bw3 al
  obtain ⟨w4, e4⟩ : ∃ x, x = w3.alloc (.cells #[.slice a3 M.h.words.length c3, .slice b3 M.h.roots.length d3, .int .i64 M.h.old, .int .i64 M.h.eden, .int .i64 M.h.surv, .bool M.h.flip, .int .i64 M.h.hash, .slice e3 M.h.kept.length f3, .slice p3 M.prog.length q3, .int .i64 M.pc, .slice o3 M.out.length r3, .int .i64 M.st] 30) := ⟨_, rfl⟩
  have lt34 : w3.heap.size < w4.heap.size := by rw [e4]; simp
  have T5 := TC _ bw4
  rw [← e4] at X4 h4 bw4
  clear h3 al
  go_wp2_with fail
  refine T5.mono ?_
  clear T5
  rw [← e4]
  clear e4
  rintro e w5 ⟨⟨rfl, rc5⟩, hb5, lt5⟩
  have bw5 := bel_after bw4 hb5
  have X5 := X4.later hb5
  have h5 := h4.later hb5
  obtain ⟨gx, egx⟩ : ∃ x, x = w4.heap.size := ⟨_, rfl⟩
  rw [← egx] at rc5 lt5 lt34 ⊢
  have C := IN _ w5 (rc5.cr (Nat.le_refl _))
  clear X4 h4 hb5
  clear egx
  go_wp2_with fail
  refine C.mono ?_
  clear C
  rintro e w6 ⟨⟨u, rfl, h6⟩, hb6⟩
  have bw6 := bel_after bw5 hb6
  have X6 := X5.later hb6
  have h36 := h5.later hb6
  have rc6 := rc5.later hb6
  have rw6 := fun b (h : VRow u M b) => h6.row h
  have l56 := hb6.size
  obtain ⟨u1, u2, u3, up, uo, rfl, k1, k2, k3, kp, ko⟩ := h6.vr
  obtain ⟨a7, c7, rfl, -⟩ := IRs k1
  obtain ⟨b7, d7, rfl, -⟩ := IRs k2
  obtain ⟨e7, f7, rfl, -⟩ := IRs k3
  obtain ⟨p7, q7, rfl, -⟩ := CRs kp
  obtain ⟨o7, r7, rfl, -⟩ := IRs ko
  clear k1 k2 k3 kp ko
  have al := bel_one w6 (.cells #[.slice a7 M.h.words.length c7, .slice b7 M.h.roots.length d7, .int .i64 M.h.old, .int .i64 M.h.eden, .int .i64 M.h.surv, .bool M.h.flip, .int .i64 M.h.hash, .slice e7 M.h.kept.length f7, .slice p7 M.prog.length q7, .int .i64 M.pc, .slice o7 M.out.length r7, .int .i64 M.st] 30)
  have Y7 : Bk (w6.alloc (.cells #[.slice a7 M.h.words.length c7, .slice b7 M.h.roots.length d7, .int .i64 M.h.old, .int .i64 M.h.eden, .int .i64 M.h.surv, .bool M.h.flip, .int .i64 M.h.hash, .slice e7 M.h.kept.length f7, .slice p7 M.prog.length q7, .int .i64 M.pc, .slice o7 M.out.length r7, .int .i64 M.st] 30)) w6.heap.size #[.slice a7 M.h.words.length c7, .slice b7 M.h.roots.length d7, .int .i64 M.h.old, .int .i64 M.h.eden, .int .i64 M.h.surv, .bool M.h.flip, .int .i64 M.h.hash, .slice e7 M.h.kept.length f7, .slice p7 M.prog.length q7, .int .i64 M.pc, .slice o7 M.out.length r7, .int .i64 M.st] 30 := Bk.new w6 _ _
  have X7 := X6.later al
  have h37 := h36.later al
  have h7 := h6.later al
  have rc7 := rc6.later al
  have bw7 := bel_after bw6 al
  have sz7 : (w6.alloc (.cells #[.slice a7 M.h.words.length c7, .slice b7 M.h.roots.length d7, .int .i64 M.h.old, .int .i64 M.h.eden, .int .i64 M.h.surv, .bool M.h.flip, .int .i64 M.h.hash, .slice e7 M.h.kept.length f7, .slice p7 M.prog.length q7, .int .i64 M.pc, .slice o7 M.out.length r7, .int .i64 M.st] 30)).heap.size = w6.heap.size + 1 := by simp
  have EQ := eqVm_any _ _ M _ h7.vr h37.vr sm9.out
  have x0 := X7.cell 0 (.slice a3 M.h.words.length c3) rfl
  have x1 := X7.cell 1 (.slice b3 M.h.roots.length d3) rfl
  have x2 := X7.cell 2 (.int .i64 M.h.old) rfl
  have x3 := X7.cell 3 (.int .i64 M.h.eden) rfl
  have x4 := X7.cell 4 (.int .i64 M.h.surv) rfl
  have x5 := X7.cell 5 (.bool M.h.flip) rfl
  have x6 := X7.cell 6 (.int .i64 M.h.hash) rfl
  have x7 := X7.cell 7 (.slice e3 M.h.kept.length f3) rfl
  have x8 := X7.cell 8 (.slice p3 M.prog.length q3) rfl
  have x9 := X7.cell 9 (.int .i64 M.pc) rfl
  have x10 := X7.cell 10 (.slice o3 M.out.length r3) rfl
  have x11 := X7.cell 11 (.int .i64 M.st) rfl
  have y0 := Y7.cell 0 (.slice a7 M.h.words.length c7) rfl
  have y1 := Y7.cell 1 (.slice b7 M.h.roots.length d7) rfl
  have y2 := Y7.cell 2 (.int .i64 M.h.old) rfl
  have y3 := Y7.cell 3 (.int .i64 M.h.eden) rfl
  have y4 := Y7.cell 4 (.int .i64 M.h.surv) rfl
  have y5 := Y7.cell 5 (.bool M.h.flip) rfl
  have y6 := Y7.cell 6 (.int .i64 M.h.hash) rfl
  have y7 := Y7.cell 7 (.slice e7 M.h.kept.length f7) rfl
  have y8 := Y7.cell 8 (.slice p7 M.prog.length q7) rfl
  have y9 := Y7.cell 9 (.int .i64 M.pc) rfl
  have y10 := Y7.cell 10 (.slice o7 M.out.length r7) rfl
  have y11 := Y7.cell 11 (.int .i64 M.st) rfl
  clear X5 X6 h5 h36 h6 rc5 rc6 hb6
  go_wp2_with fail
  refine EQ.mono ?_
  clear EQ x0 y0 x1 y1 x2 y2 x3 y3 x4 y4 x5 y5 x6 y6 x7 y7 x8 y8 x9 y9 x10 y10 x11 y11
  rintro e w8 ⟨rfl, hb8⟩
  have bw8 := bel_after bw7 hb8
  have X8 := X7.later hb8
  have Y8 := Y7.later hb8
  have h38 := h37.later hb8
  have h8 := h7.later hb8
  have rc8 := rc7.later hb8
  have l78 : w6.heap.size + 1 ≤ w8.heap.size := by have := hb8.size; omega
  clear X7 Y7 h37 h7 rc7 hb8 sz7
  have T9 := TC _ bw8
  go_wp2_with fail
  refine T9.mono ?_
  clear T9
  rintro e w9 ⟨⟨rfl, rc9⟩, hb9, -⟩
  have bw9 := bel_after bw8 hb9
  have rc89 := rc8.later hb9
  have EC := eqCodes_any (.slice (some ⟨gx, 0, none⟩) pr.length pr.length) (.slice (some ⟨w8.heap.size, 0, none⟩) pr.length pr.length) pr pr w9 (rc89.cr (Nat.le_refl _)) (rc9.cr (Nat.le_refl _)) (by have := hl9.out; omega) (by have := hl9.out; omega)
  rw [decide_eq_true rfl] at EC
  go_wp2_with fail
  refine EC.mono ?_
  clear EC
  rintro e w10 ⟨rfl, hb10⟩
  have b8a := bel_after hb9 hb10
  have bw10 := bel_after bw8 b8a
  have X10 := X8.later b8a
  have Y10 := Y8.later b8a
  have h3a := h38.later b8a
  have ha := h8.later b8a
  have rca := rc8.later b8a
  have l8a := b8a.size
  clear X8 Y8 h38 h8 rc8 rc9 rc89 hb9 hb10 b8a
  have MC := markCodes_any (.slice (some ⟨gx, 0, none⟩) pr.length pr.length) pr.length 1 w10 rca.os ⟨_, _, rfl, Nat.le_refl _⟩ (by omega) (by have := hl9.out; omega)
  have kd : decide ((1 + 2 * (pr.length : Int)) < 0) = false := decide_eq_false (by omega)
  go_wp2_with fail
  refine MC.mono ?_
  clear MC
  rintro e w11 ⟨rfl, g11, -⟩
  have gr : ∀ b, b ≠ gx → some b ≠ Disk.rowOf (.slice (some ⟨gx, 0, none⟩) pr.length pr.length) pr.length := fun b h e => h (rowof e.symm)
  have X11 := X10.off g11 (gr _ (by omega))
  have Y11 := Y10.off g11 (gr _ (by omega))
  have bw11 : Below w.heap.size w w11 := Below.grown bw10 g11 bw10.size (fun k hk => by have := rowof hk; have := bw3.size; omega)
  have h3b : VN w2.heap.size w11 (.agg #[.slice a3 M.h.words.length c3, .slice b3 M.h.roots.length d3, .int .i64 M.h.old, .int .i64 M.h.eden, .int .i64 M.h.surv, .bool M.h.flip, .int .i64 M.h.hash, .slice e3 M.h.kept.length f3, .slice p3 M.prog.length q3, .int .i64 M.pc, .slice o3 M.out.length r3, .int .i64 M.st]) M := h3a.keepR (S := w3.heap.size) (fun b h1 h2 => g11.block b (by omega) (gr b (by omega))) rw3
  have hb : VN w5.heap.size w11 (.agg #[.slice a7 M.h.words.length c7, .slice b7 M.h.roots.length d7, .int .i64 M.h.old, .int .i64 M.h.eden, .int .i64 M.h.surv, .bool M.h.flip, .int .i64 M.h.hash, .slice e7 M.h.kept.length f7, .slice p7 M.prog.length q7, .int .i64 M.pc, .slice o7 M.out.length r7, .int .i64 M.st]) M := ha.keepR (S := w6.heap.size) (fun b h1 h2 => g11.block b (by omega) (gr b (by omega))) (fun b h => (rw6 b h).2)
  have l11 := g11.size
  clear X10 Y10 h3a ha rca g11
  have EQ := eqVm_any _ _ M w11 hb.vr h3b.vr sm9.out
  have x0 := X11.cell 0 (.slice a3 M.h.words.length c3) rfl
  have x1 := X11.cell 1 (.slice b3 M.h.roots.length d3) rfl
  have x2 := X11.cell 2 (.int .i64 M.h.old) rfl
  have x3 := X11.cell 3 (.int .i64 M.h.eden) rfl
  have x4 := X11.cell 4 (.int .i64 M.h.surv) rfl
  have x5 := X11.cell 5 (.bool M.h.flip) rfl
  have x6 := X11.cell 6 (.int .i64 M.h.hash) rfl
  have x7 := X11.cell 7 (.slice e3 M.h.kept.length f3) rfl
  have x8 := X11.cell 8 (.slice p3 M.prog.length q3) rfl
  have x9 := X11.cell 9 (.int .i64 M.pc) rfl
  have x10 := X11.cell 10 (.slice o3 M.out.length r3) rfl
  have x11 := X11.cell 11 (.int .i64 M.st) rfl
  have y0 := Y11.cell 0 (.slice a7 M.h.words.length c7) rfl
  have y1 := Y11.cell 1 (.slice b7 M.h.roots.length d7) rfl
  have y2 := Y11.cell 2 (.int .i64 M.h.old) rfl
  have y3 := Y11.cell 3 (.int .i64 M.h.eden) rfl
  have y4 := Y11.cell 4 (.int .i64 M.h.surv) rfl
  have y5 := Y11.cell 5 (.bool M.h.flip) rfl
  have y6 := Y11.cell 6 (.int .i64 M.h.hash) rfl
  have y7 := Y11.cell 7 (.slice e7 M.h.kept.length f7) rfl
  have y8 := Y11.cell 8 (.slice p7 M.prog.length q7) rfl
  have y9 := Y11.cell 9 (.int .i64 M.pc) rfl
  have y10 := Y11.cell 10 (.slice o7 M.out.length r7) rfl
  have y11 := Y11.cell 11 (.int .i64 M.st) rfl
  go_wp2_with fail
  refine EQ.mono ?_
  clear EQ x0 y0 x1 y1 x2 y2 x3 y3 x4 y4 x5 y5 x6 y6 x7 y7 x8 y8 x9 y9 x10 y10 x11 y11
  rintro e w12 ⟨rfl, hb12⟩
  have bw12 := bel_after bw11 hb12
  have X12 := X11.later hb12
  have Y12 := Y11.later hb12
  have h3c := h3b.later hb12
  have hc := hb.later hb12
  have l12 := hb12.size
  clear X11 Y11 h3b hb hb12
  have MV := markVm_any _ _ M w12 hc sm9.out
  have y0 := Y12.cell 0 (.slice a7 M.h.words.length c7) rfl
  have y1 := Y12.cell 1 (.slice b7 M.h.roots.length d7) rfl
  have y2 := Y12.cell 2 (.int .i64 M.h.old) rfl
  have y3 := Y12.cell 3 (.int .i64 M.h.eden) rfl
  have y4 := Y12.cell 4 (.int .i64 M.h.surv) rfl
  have y5 := Y12.cell 5 (.bool M.h.flip) rfl
  have y6 := Y12.cell 6 (.int .i64 M.h.hash) rfl
  have y7 := Y12.cell 7 (.slice e7 M.h.kept.length f7) rfl
  have y8 := Y12.cell 8 (.slice p7 M.prog.length q7) rfl
  have y9 := Y12.cell 9 (.int .i64 M.pc) rfl
  have y10 := Y12.cell 10 (.slice o7 M.out.length r7) rfl
  have y11 := Y12.cell 11 (.int .i64 M.st) rfl
  go_wp2_with fail
  refine MV.mono ?_
  clear MV y0 y1 y2 y3 y4 y5 y6 y7 y8 y9 y10 y11
  rintro e w13 ⟨rfl, O13, mk13⟩
  have hk13 : ∀ b, b < w12.heap.size → (b < w5.heap.size ∨ w6.heap.size ≤ b) → w13.heap[b]? = w12.heap[b]? := fun b h1 h2 => O13.block b h1 (fun e => by have := rw6 b e; omega)
  have X13 : Bk w13 w3.heap.size #[.slice a3 M.h.words.length c3, .slice b3 M.h.roots.length d3, .int .i64 M.h.old, .int .i64 M.h.eden, .int .i64 M.h.surv, .bool M.h.flip, .int .i64 M.h.hash, .slice e3 M.h.kept.length f3, .slice p3 M.prog.length q3, .int .i64 M.pc, .slice o3 M.out.length r3, .int .i64 M.st] 30 := (hk13 _ X12.lt (.inl (by omega))).trans X12
  have Y13 : Bk w13 w6.heap.size #[.slice a7 M.h.words.length c7, .slice b7 M.h.roots.length d7, .int .i64 M.h.old, .int .i64 M.h.eden, .int .i64 M.h.surv, .bool M.h.flip, .int .i64 M.h.hash, .slice e7 M.h.kept.length f7, .slice p7 M.prog.length q7, .int .i64 M.pc, .slice o7 M.out.length r7, .int .i64 M.st] 30 := (hk13 _ Y12.lt (.inr (Nat.le_refl _))).trans Y12
  have h3d : VN w2.heap.size w13 (.agg #[.slice a3 M.h.words.length c3, .slice b3 M.h.roots.length d3, .int .i64 M.h.old, .int .i64 M.h.eden, .int .i64 M.h.surv, .bool M.h.flip, .int .i64 M.h.hash, .slice e3 M.h.kept.length f3, .slice p3 M.prog.length q3, .int .i64 M.pc, .slice o3 M.out.length r3, .int .i64 M.st]) M := h3c.keepR (S := w3.heap.size) (fun b h1 h2 => hk13 b (by omega) (.inl (by omega))) rw3
  have bw13 : Below w.heap.size w w13 := bw12.trans (O13.below bw12.size (fun b e => by have := rw6 b e; have := bw5.size; omega))
  have l13 := O13.size
  clear X12 Y12 h3c hc O13 hk13
  have HV := heldVm_any _ M w13 mk13 sm9.out
  have kp : 0 < kTot M := by unfold kTot; omega
  have mm : (kTot M != kTot M) = false := by simp
  have md : decide (kTot M < 0) = false := decide_eq_false (by omega)
  have y0 := Y13.cell 0 (.slice a7 M.h.words.length c7) rfl
  have y1 := Y13.cell 1 (.slice b7 M.h.roots.length d7) rfl
  have y2 := Y13.cell 2 (.int .i64 M.h.old) rfl
  have y3 := Y13.cell 3 (.int .i64 M.h.eden) rfl
  have y4 := Y13.cell 4 (.int .i64 M.h.surv) rfl
  have y5 := Y13.cell 5 (.bool M.h.flip) rfl
  have y6 := Y13.cell 6 (.int .i64 M.h.hash) rfl
  have y7 := Y13.cell 7 (.slice e7 M.h.kept.length f7) rfl
  have y8 := Y13.cell 8 (.slice p7 M.prog.length q7) rfl
  have y9 := Y13.cell 9 (.int .i64 M.pc) rfl
  have y10 := Y13.cell 10 (.slice o7 M.out.length r7) rfl
  have y11 := Y13.cell 11 (.int .i64 M.st) rfl
  go_wp2_with fail
  refine HV.mono ?_
  clear HV y0 y1 y2 y3 y4 y5 y6 y7 y8 y9 y10 y11
  rintro e w14 ⟨rfl, hb14⟩
  have bw14 := bel_after bw13 hb14
  have X14 := X13.later hb14
  have Y14 := Y13.later hb14
  have h3e := h3d.later hb14
  have mk14 := mk13.later hb14
  clear X13 Y13 h3d mk13 hb14
  have T15 := TC _ bw14
  go_wp2_with fail
  refine T15.mono ?_
  clear T15 TC
  rintro e w15 ⟨⟨rfl, rc15⟩, hb15, -⟩
  have bw15 := bel_after bw14 hb15
  have X15 := X14.later hb15
  have Y15 := Y14.later hb15
  have h3f := h3e.later hb15
  have mk15 := mk14.later hb15
  have C := IN _ w15 (rc15.cr (Nat.le_refl _))
  clear X14 Y14 h3e mk14 hb15 IN rc15
  go_wp2_with fail
  refine C.mono ?_
  clear C
  rintro e w16 ⟨⟨u, rfl, h16⟩, hb16⟩
  have bw16 := bel_after bw15 hb16
  have X16 := X15.later hb16
  have Y16 := Y15.later hb16
  have h3g := h3f.later hb16
  have mk16 := mk15.later hb16
  obtain ⟨u1, u2, u3, up, uo, rfl, k1, k2, k3, kp, ko⟩ := h16.vr
  obtain ⟨a15, c15, rfl, -⟩ := IRs k1
  obtain ⟨b15, d15, rfl, -⟩ := IRs k2
  obtain ⟨e15, f15, rfl, -⟩ := IRs k3
  obtain ⟨p15, q15, rfl, -⟩ := CRs kp
  obtain ⟨o15, r15, rfl, -⟩ := IRs ko
  clear k1 k2 k3 kp ko
  have al := bel_one w16 (.cells #[.slice a15 M.h.words.length c15, .slice b15 M.h.roots.length d15, .int .i64 M.h.old, .int .i64 M.h.eden, .int .i64 M.h.surv, .bool M.h.flip, .int .i64 M.h.hash, .slice e15 M.h.kept.length f15, .slice p15 M.prog.length q15, .int .i64 M.pc, .slice o15 M.out.length r15, .int .i64 M.st] 30)
  have Z17 : Bk (w16.alloc (.cells #[.slice a15 M.h.words.length c15, .slice b15 M.h.roots.length d15, .int .i64 M.h.old, .int .i64 M.h.eden, .int .i64 M.h.surv, .bool M.h.flip, .int .i64 M.h.hash, .slice e15 M.h.kept.length f15, .slice p15 M.prog.length q15, .int .i64 M.pc, .slice o15 M.out.length r15, .int .i64 M.st] 30)) w16.heap.size #[.slice a15 M.h.words.length c15, .slice b15 M.h.roots.length d15, .int .i64 M.h.old, .int .i64 M.h.eden, .int .i64 M.h.surv, .bool M.h.flip, .int .i64 M.h.hash, .slice e15 M.h.kept.length f15, .slice p15 M.prog.length q15, .int .i64 M.pc, .slice o15 M.out.length r15, .int .i64 M.st] 30 := Bk.new w16 _ _
  have X17 := X16.later al
  have Y17 := Y16.later al
  have h3h := h3g.later al
  have mk17 := mk16.later al
  have h17 := h16.later al
  have bw17 := bel_after bw16 al
  have EQ := eqVm_any _ _ M _ h17.vr h3h.vr sm9.out
  have x0 := X17.cell 0 (.slice a3 M.h.words.length c3) rfl
  have x1 := X17.cell 1 (.slice b3 M.h.roots.length d3) rfl
  have x2 := X17.cell 2 (.int .i64 M.h.old) rfl
  have x3 := X17.cell 3 (.int .i64 M.h.eden) rfl
  have x4 := X17.cell 4 (.int .i64 M.h.surv) rfl
  have x5 := X17.cell 5 (.bool M.h.flip) rfl
  have x6 := X17.cell 6 (.int .i64 M.h.hash) rfl
  have x7 := X17.cell 7 (.slice e3 M.h.kept.length f3) rfl
  have x8 := X17.cell 8 (.slice p3 M.prog.length q3) rfl
  have x9 := X17.cell 9 (.int .i64 M.pc) rfl
  have x10 := X17.cell 10 (.slice o3 M.out.length r3) rfl
  have x11 := X17.cell 11 (.int .i64 M.st) rfl
  have y0 := Z17.cell 0 (.slice a15 M.h.words.length c15) rfl
  have y1 := Z17.cell 1 (.slice b15 M.h.roots.length d15) rfl
  have y2 := Z17.cell 2 (.int .i64 M.h.old) rfl
  have y3 := Z17.cell 3 (.int .i64 M.h.eden) rfl
  have y4 := Z17.cell 4 (.int .i64 M.h.surv) rfl
  have y5 := Z17.cell 5 (.bool M.h.flip) rfl
  have y6 := Z17.cell 6 (.int .i64 M.h.hash) rfl
  have y7 := Z17.cell 7 (.slice e15 M.h.kept.length f15) rfl
  have y8 := Z17.cell 8 (.slice p15 M.prog.length q15) rfl
  have y9 := Z17.cell 9 (.int .i64 M.pc) rfl
  have y10 := Z17.cell 10 (.slice o15 M.out.length r15) rfl
  have y11 := Z17.cell 11 (.int .i64 M.st) rfl
  clear X15 Y15 h3f mk15 X16 Y16 h3g mk16 h16 hb16
  go_wp2_with fail
  refine EQ.mono ?_
  clear EQ x0 y0 x1 y1 x2 y2 x3 y3 x4 y4 x5 y5 x6 y6 x7 y7 x8 y8 x9 y9 x10 y10 x11 y11
  rintro e w18 ⟨rfl, hb18⟩
  have bw18 := bel_after bw17 hb18
  have Y18 := Y17.later hb18
  have mk18 := mk17.later hb18
  have HV := heldVm_any _ M w18 mk18 sm9.out
  have y0 := Y18.cell 0 (.slice a7 M.h.words.length c7) rfl
  have y1 := Y18.cell 1 (.slice b7 M.h.roots.length d7) rfl
  have y2 := Y18.cell 2 (.int .i64 M.h.old) rfl
  have y3 := Y18.cell 3 (.int .i64 M.h.eden) rfl
  have y4 := Y18.cell 4 (.int .i64 M.h.surv) rfl
  have y5 := Y18.cell 5 (.bool M.h.flip) rfl
  have y6 := Y18.cell 6 (.int .i64 M.h.hash) rfl
  have y7 := Y18.cell 7 (.slice e7 M.h.kept.length f7) rfl
  have y8 := Y18.cell 8 (.slice p7 M.prog.length q7) rfl
  have y9 := Y18.cell 9 (.int .i64 M.pc) rfl
  have y10 := Y18.cell 10 (.slice o7 M.out.length r7) rfl
  have y11 := Y18.cell 11 (.int .i64 M.st) rfl
  clear X17 Y17 Z17 h3h mk17 h17
  go_wp2_with fail
  refine HV.mono ?_
  clear HV y0 y1 y2 y3 y4 y5 y6 y7 y8 y9 y10 y11
  rintro e w19 ⟨rfl, hb19⟩
  have bw19 := bel_after bw18 hb19
  clear mk18 Y18
  go_wp2
  go_ret
  exact ⟨rfl, bw19⟩

end Go.Proofs.YtgacacbncefeaaaGreat

/- The law FnBooted, walked. -/
namespace Go.Proofs.YtgacacbncefeaaaGreat
open Go.RowKit

theorem ccl_get (l : List Cd) : ∀ j, j < l.length → (ccl l)[j * 2]? = some (.int .i64 (l.getD j cd0).1) ∧ (ccl l)[j * 2 + 1]? = some (.int .i64 (l.getD j cd0).2) := by
  induction l with
  | nil => intro j hj; simp at hj
  | cons c l ih =>
    have e : ccl (c :: l) = .int .i64 c.1 :: .int .i64 c.2 :: ccl l := rfl
    intro j hj
    rw [e]
    rcases j with _ | j
    · exact ⟨rfl, rfl⟩
    · obtain ⟨a, b⟩ := ih j (by simpa using hj)
      rw [show (j + 1) * 2 = j * 2 + 1 + 1 from by omega]
      exact ⟨by simpa using a, by simpa using b⟩
theorem own_cr {w : World} {B : Nat} {v : Value} {l : List Cd} (h : w.ownsRow B 59 2 v l.length (ccl l)) : CR w v l := by
  obtain ⟨_, h⟩ := h
  rcases h with ⟨rfl, e⟩ | ⟨g, cap, cur, rfl, hB, hh, h1, h2, h3, h4⟩
  · obtain rfl : l = [] := List.eq_nil_of_length_eq_zero e
    exact ⟨none, 0, rfl, Nat.le_refl _, fun i hi => absurd hi (Nat.not_lt_zero i)⟩
  · have hcell : ∀ c u, c < l.length * 2 → (ccl l)[c]? = some u → w.cell? ⟨g, c, none⟩ = some u := fun c u hc hu => by
      have q2 : (cur.toList.take (l.length * 2))[c]? = (ccl l)[c]? := by rw [h4]
      rw [List.getElem?_take_of_lt hc, hu] at q2
      have q3 : cur[c]? = some u := by rw [← Array.getElem?_toList]; exact q2
      simp [World.cell?, hh, q3]
    refine ⟨_, cap, rfl, h1, fun i hi => ⟨g, 0, rfl, ?_, ?_⟩⟩
    · rw [Nat.zero_add]; exact hcell _ _ (by omega) (ccl_get l i hi).1
    · rw [Nat.zero_add]; exact hcell _ _ (by omega) (ccl_get l i hi).2

theorem own_len {w : World} {B e size n : Nat} {v : Value} {xs : List Value} (h : w.ownsRow B e size v n xs) : ∃ ao cap, v = .slice ao n cap := by
  rcases h.2 with ⟨rfl, e⟩ | ⟨g, cap, cur, rfl, _⟩
  · exact ⟨_, _, by rw [e]⟩
  · exact ⟨_, _, rfl⟩
theorem nvR_all (l : List Cd) : (okM (nvR l).h (nvR l).prog (nvR l).pc (nvR l).out (nvR l).st && partsB (nvR l).h) = progB l ∧ (progB l = true → (nvR l).pc = 0 ∧ (nvR l).st = 0 ∧ (obC (nvR l).h).length = 2 ∧ (nvR l).prog.length = l.length) := by
  cases h : progB l with
  | false =>
    have e : nvR l = zeroM := by unfold nvR; rw [h]; rfl
    rw [e]
    exact ⟨zeroM_ok _ _ _ _ _, fun k => by cases k⟩
  | true =>
    have e : nvR l = nvM l := by unfold nvR; rw [h]; rfl
    rw [e]
    exact ⟨nvM_ok h, fun _ => ⟨rfl, rfl, nT4_objs, rfl⟩⟩

set_option maxRecDepth 100000 in
set_option maxHeartbeats 6400000 in
theorem lawBooted_any (cv : Value) (cs : List UInt8) (w : World) (hc : BR w cv cs) :
    Calls Tryz.prog 3 #[cv] w fun x w' => x = .returned (.bool true) ∧ Below w.heap.size w w' := by
  have BG := big_any cv cs w hc
  by_cases hbig : 4096 < cs.length
  · rw [decide_eq_true hbig] at BG
    go_enter Tryz.func3, Tryz.ntmps3
    go_wp2_with (go_at_call 7; refine BG.mono ?_; rintro x w' ⟨rfl, rfl⟩)
    go_ret
    exact ⟨rfl, Below.refl _ _⟩
  rw [decide_eq_false hbig] at BG
  go_enter Tryz.func3, Tryz.ntmps3
  go_wp2_with fail
  refine BG.mono ?_
  rintro x w0 ⟨rfl, rfl⟩
  clear BG
  go_wp2_with fail
  refine (drawNewVm_any cv cs _ hc (by omega)).mono ?_
  rintro x w1 ⟨pv, l, rfl, hl, OW, hb1⟩
  have ip := own_cr OW
  obtain ⟨pa, pc, rfl, hpc⟩ := CRs ip
  clear OW hc hbig
  obtain ⟨hOK, hAll⟩ := nvR_all l
  have sm9 : Hid (smM (nvR l) 1000000000) := nvR_sm l (by omega)
  have IN := implNewVm_any _ l w1 ip (by omega)
  have SN := fun W (h : CR W (.slice pa l.length pc) l) => specNewVm_any _ l W h (by omega)
  generalize nvR l = M at *
  generalize progB l = B at *
  replace hAll : Hid _ := hAll
  replace hOK : Hid _ := hOK
  have bb : (B != B) = false := by simp
  go_wp2_with fail
  refine IN.mono ?_
  clear IN
  rintro x w2 ⟨⟨v, rfl, VN2⟩, hb2⟩
  have bw2 := bel_after hb1 hb2
  have ip2 := ip.later hb2
  have V2 := VN2.vr
  clear VN2 ip hb1 hb2
  obtain ⟨v1, v2, v3, vp, vo, rfl, i1, i2, i3, jp, jo⟩ := id V2
  obtain ⟨a1, c1, rfl, -⟩ := IRs i1
  obtain ⟨b1, d1, rfl, -⟩ := IRs i2
  obtain ⟨e1, f1, rfl, -⟩ := IRs i3
  obtain ⟨p1, q1, rfl, -⟩ := CRs jp
  obtain ⟨o1, r1, rfl, -⟩ := IRs jo
  clear i1 i2 i3 jp jo
  have al := bel_one w2 (.cells #[.slice a1 M.h.words.length c1, .slice b1 M.h.roots.length d1, .int .i64 M.h.old, .int .i64 M.h.eden, .int .i64 M.h.surv, .bool M.h.flip, .int .i64 M.h.hash, .slice e1 M.h.kept.length f1, .slice p1 M.prog.length q1, .int .i64 M.pc, .slice o1 M.out.length r1, .int .i64 M.st] 30)
  have X3 : Bk (w2.alloc (.cells #[.slice a1 M.h.words.length c1, .slice b1 M.h.roots.length d1, .int .i64 M.h.old, .int .i64 M.h.eden, .int .i64 M.h.surv, .bool M.h.flip, .int .i64 M.h.hash, .slice e1 M.h.kept.length f1, .slice p1 M.prog.length q1, .int .i64 M.pc, .slice o1 M.out.length r1, .int .i64 M.st] 30)) w2.heap.size #[.slice a1 M.h.words.length c1, .slice b1 M.h.roots.length d1, .int .i64 M.h.old, .int .i64 M.h.eden, .int .i64 M.h.surv, .bool M.h.flip, .int .i64 M.h.hash, .slice e1 M.h.kept.length f1, .slice p1 M.prog.length q1, .int .i64 M.pc, .slice o1 M.out.length r1, .int .i64 M.st] 30 := Bk.new _ _ _
  have V3 := V2.later al
  have ip3 := ip2.later al
  have bw3 := bel_after bw2 al
  have lt3 : w2.heap.size < (w2.alloc (.cells #[.slice a1 M.h.words.length c1, .slice b1 M.h.roots.length d1, .int .i64 M.h.old, .int .i64 M.h.eden, .int .i64 M.h.surv, .bool M.h.flip, .int .i64 M.h.hash, .slice e1 M.h.kept.length f1, .slice p1 M.prog.length q1, .int .i64 M.pc, .slice o1 M.out.length r1, .int .i64 M.st] 30)).heap.size := by simp
  have SN3 := SN _ ip3
  clear V2 ip2 bw2 al SN
  go_wp2_with fail
  generalize (w2.alloc _) = w3 at *
  refine SN3.mono ?_
  clear SN3
  rintro x w4 ⟨⟨u, rfl, VN4⟩, hb4⟩
  have bw4 := bel_after bw3 hb4
  have V4 := V3.later hb4
  have X4 := X3.later hb4
  have U4 := VN4.vr
  clear VN4 V3 X3 ip3 bw3
  have lt4 : w2.heap.size < w4.heap.size := Nat.lt_of_lt_of_le lt3 hb4.size
  clear lt3 hb4
  obtain ⟨v1, v2, v3, vp, vo, rfl, i1, i2, i3, jp, jo⟩ := id U4
  obtain ⟨a2, c2, rfl, -⟩ := IRs i1
  obtain ⟨b2, d2, rfl, -⟩ := IRs i2
  obtain ⟨e2, f2, rfl, -⟩ := IRs i3
  obtain ⟨p2, q2, rfl, -⟩ := CRs jp
  obtain ⟨o2, r2, rfl, -⟩ := IRs jo
  clear i1 i2 i3 jp jo
  have al := bel_one w4 (.cells #[.slice a2 M.h.words.length c2, .slice b2 M.h.roots.length d2, .int .i64 M.h.old, .int .i64 M.h.eden, .int .i64 M.h.surv, .bool M.h.flip, .int .i64 M.h.hash, .slice e2 M.h.kept.length f2, .slice p2 M.prog.length q2, .int .i64 M.pc, .slice o2 M.out.length r2, .int .i64 M.st] 30)
  have Y5 : Bk (w4.alloc (.cells #[.slice a2 M.h.words.length c2, .slice b2 M.h.roots.length d2, .int .i64 M.h.old, .int .i64 M.h.eden, .int .i64 M.h.surv, .bool M.h.flip, .int .i64 M.h.hash, .slice e2 M.h.kept.length f2, .slice p2 M.prog.length q2, .int .i64 M.pc, .slice o2 M.out.length r2, .int .i64 M.st] 30)) w4.heap.size #[.slice a2 M.h.words.length c2, .slice b2 M.h.roots.length d2, .int .i64 M.h.old, .int .i64 M.h.eden, .int .i64 M.h.surv, .bool M.h.flip, .int .i64 M.h.hash, .slice e2 M.h.kept.length f2, .slice p2 M.prog.length q2, .int .i64 M.pc, .slice o2 M.out.length r2, .int .i64 M.st] 30 := Bk.new _ _ _
  have X5 := X4.later al
  have V5 := V4.later al
  have U5 := U4.later al
  have bw5 := bel_after bw4 al
  have EQ := likeVm_any _ _ M _ V5 U5 sm9.out
  clear V4 U4 X4 bw4 al
  have x0 := X5.cell 0 (.slice a1 M.h.words.length c1) rfl
  have x1 := X5.cell 1 (.slice b1 M.h.roots.length d1) rfl
  have x2 := X5.cell 2 (.int .i64 M.h.old) rfl
  have x3 := X5.cell 3 (.int .i64 M.h.eden) rfl
  have x4 := X5.cell 4 (.int .i64 M.h.surv) rfl
  have x5 := X5.cell 5 (.bool M.h.flip) rfl
  have x6 := X5.cell 6 (.int .i64 M.h.hash) rfl
  have x7 := X5.cell 7 (.slice e1 M.h.kept.length f1) rfl
  have x8 := X5.cell 8 (.slice p1 M.prog.length q1) rfl
  have x9 := X5.cell 9 (.int .i64 M.pc) rfl
  have x10 := X5.cell 10 (.slice o1 M.out.length r1) rfl
  have x11 := X5.cell 11 (.int .i64 M.st) rfl
  have y0 := Y5.cell 0 (.slice a2 M.h.words.length c2) rfl
  have y1 := Y5.cell 1 (.slice b2 M.h.roots.length d2) rfl
  have y2 := Y5.cell 2 (.int .i64 M.h.old) rfl
  have y3 := Y5.cell 3 (.int .i64 M.h.eden) rfl
  have y4 := Y5.cell 4 (.int .i64 M.h.surv) rfl
  have y5 := Y5.cell 5 (.bool M.h.flip) rfl
  have y6 := Y5.cell 6 (.int .i64 M.h.hash) rfl
  have y7 := Y5.cell 7 (.slice e2 M.h.kept.length f2) rfl
  have y8 := Y5.cell 8 (.slice p2 M.prog.length q2) rfl
  have y9 := Y5.cell 9 (.int .i64 M.pc) rfl
  have y10 := Y5.cell 10 (.slice o2 M.out.length r2) rfl
  have y11 := Y5.cell 11 (.int .i64 M.st) rfl
  go_wp2_with fail
  generalize (w4.alloc _) = w5 at *
  refine EQ.mono ?_
  clear EQ x0 x1 x2 x3 x4 x5 x6 x7 x8 x9 x10 x11 y0 y1 y2 y3 y4 y5 y6 y7 y8 y9 y10 y11
  rintro x w6 ⟨rfl, hb6⟩
  have bw6 := bel_after bw5 hb6
  have X6 := X5.later hb6
  have V6 := V5.later hb6
  have VO := fun W (hb : Below w6.heap.size w6 W) => implVmOk_any _ M W (V6.later hb) sm9.out
  rw [hOK.out] at VO
  clear Y5 V5 U5 X5 bw5 hb6 lt4 hOK bb
  have x0 := X6.cell 0 (.slice a1 M.h.words.length c1) rfl
  have x1 := X6.cell 1 (.slice b1 M.h.roots.length d1) rfl
  have x2 := X6.cell 2 (.int .i64 M.h.old) rfl
  have x3 := X6.cell 3 (.int .i64 M.h.eden) rfl
  have x4 := X6.cell 4 (.int .i64 M.h.surv) rfl
  have x5 := X6.cell 5 (.bool M.h.flip) rfl
  have x6 := X6.cell 6 (.int .i64 M.h.hash) rfl
  have x7 := X6.cell 7 (.slice e1 M.h.kept.length f1) rfl
  have x8 := X6.cell 8 (.slice p1 M.prog.length q1) rfl
  have x9 := X6.cell 9 (.int .i64 M.pc) rfl
  have x10 := X6.cell 10 (.slice o1 M.out.length r1) rfl
  have x11 := X6.cell 11 (.int .i64 M.st) rfl
  cases B
  · go_wp2_with fail
    refine (VO _ (Below.refl _ _)).mono ?_
    rintro x w7 ⟨rfl, hb7⟩
    have bw7 : Hid _ := bel_after bw6 hb7
    go_wp2
    go_ret
    exact ⟨rfl, bw7.out⟩
  · go_wp2_with fail
    refine (VO _ (Below.refl _ _)).mono ?_
    clear VO x0 x1 x2 x3 x4 x5 x6 x7 x8 x9 x10 x11
    rintro x w7 ⟨rfl, hb7⟩
    have bw7 := bel_after bw6 hb7
    have X7 := X6.later hb7
    have V7 := V6.later hb7
    have pe : (M.pc == 0) = true := by rw [(hAll.out (by first | rfl | trivial)).1]; rfl
    have se : (M.st == 0) = true := by rw [(hAll.out (by first | rfl | trivial)).2.1]; rfl
    have po : (((obC M.h).length : Int) == 2) = true := by rw [(hAll.out (by first | rfl | trivial)).2.2.1]; rfl
    have pl : ((M.prog.length : Int) == (l.length : Int)) = true := by rw [(hAll.out (by first | rfl | trivial)).2.2.2]; simp
    clear X6 V6 bw6 hb7
    have x0 := X7.cell 0 (.slice a1 M.h.words.length c1) rfl
    have x1 := X7.cell 1 (.slice b1 M.h.roots.length d1) rfl
    have x2 := X7.cell 2 (.int .i64 M.h.old) rfl
    have x3 := X7.cell 3 (.int .i64 M.h.eden) rfl
    have x4 := X7.cell 4 (.int .i64 M.h.surv) rfl
    have x5 := X7.cell 5 (.bool M.h.flip) rfl
    have x6 := X7.cell 6 (.int .i64 M.h.hash) rfl
    have x7 := X7.cell 7 (.slice e1 M.h.kept.length f1) rfl
    have x8 := X7.cell 8 (.slice p1 M.prog.length q1) rfl
    have x9 := X7.cell 9 (.int .i64 M.pc) rfl
    have x10 := X7.cell 10 (.slice o1 M.out.length r1) rfl
    have x11 := X7.cell 11 (.int .i64 M.st) rfl
    obtain ⟨v1, v2, v3, vp, vo, ev, i1, i2, i3, -, -⟩ := V7
    simp only [Value.agg.injEq, Array.mk.injEq, List.cons.injEq, and_true, true_and] at ev
    obtain ⟨rfl, rfl, rfl, rfl, rfl⟩ := ev
    have OB := fun W (hb : Below w7.heap.size w7 W) => implObjects_c (.agg #[.slice a1 M.h.words.length c1, .slice b1 M.h.roots.length d1, .int .i64 M.h.old, .int .i64 M.h.eden, .int .i64 M.h.surv, .bool M.h.flip, .int .i64 M.h.hash, .slice e1 M.h.kept.length f1]) M.h W ⟨_, _, _, rfl, i1.later hb, i2.later hb, i3.later hb⟩ (by have := sm9.out.2.1; omega) (by have := sm9.out.2.2.1; omega)
    clear i1 i2 i3
    go_wp2_with fail
    refine (OB _ (Below.refl _ _)).mono ?_
    clear OB x0 x1 x2 x3 x4 x5 x6 x7 x8 x9 x10 x11
    rintro x w8 ⟨⟨v', rfl, OW8⟩, hb8⟩
    obtain ⟨oa, oc, rfl⟩ := own_len OW8
    have bw8 : Hid _ := bel_after bw7 hb8
    have x8 := (X7.later hb8).cell 8 (.slice p1 M.prog.length q1) rfl
    clear X7 bw7 hb8 OW8
    go_wp2
    go_ret
    exact ⟨rfl, bw8.out⟩

end Go.Proofs.YtgacacbncefeaaaGreat
