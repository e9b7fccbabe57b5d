import Derived.Test.YtgacacbncefeaaaGreatZP8
import Derived.Test.YtgacacbncefeaaaGreatZP5
import Derived.Test.YtgacacbncefeaaaGreatZP7
import Derived.Test.YtgacacbncefeaaaGreatZMIAdd
import Derived.Test.YtgacacbncefeaaaGreatZP6
import Derived.Test.YtgacacbncefeaaaGreatZMApp
/- A new machine is right and has two objects. -/
namespace Go.Proofs.YtgacacbncefeaaaGreat
open Go.RowKit

theorem new_ob : obC newH = [] := by
  have g : ∀ i, gw newH.words i = 0 := fun i => newW_get i
  refine (c_yes (l := []) ?_).2
  refine ⟨⟨newW_length, ⟨by decide, by decide⟩, ⟨by decide, by decide⟩, ⟨by decide, by decide⟩, 0, 0, 0, ⟨rfl, fun i hi => absurd hi (by omega)⟩, ⟨rfl, fun i hi => absurd hi (by omega)⟩, ⟨rfl, fun i hi => absurd hi (by omega)⟩, rfl⟩, fun i _ _ => g i, ⟨by decide, by decide⟩, ?_, ⟨?_, ?_⟩, ?_, ?_, ?_, rfl⟩
  · intro a ha; simp at ha
  · intro a ha; simp at ha
  · exact List.nodup_nil
  · show ([] : List Int).length ≤ 20; simp
  · intro x hx; exact absurd (show x ∈ ([] : List Int) from hx) (by simp)
  · intro a ha; simp at ha
theorem nT4_objs : (obC nT4).length = 2 := by
  obtain ⟨l1, R1, _, _, n1⟩ := new_right nq1
  rw [new_ob] at n1
  rw [← nT1_eq] at R1
  obtain ⟨l2, R2, _, _, n2⟩ := new_right nq2
  rw [(c_yes R1).2, n1] at n2
  rw [← nT2_eq] at R2
  obtain ⟨l4, R4, _⟩ := nT4_right
  have e : l4 = l2 := by
    have p := R4.1
    rw [nT4_eq] at p
    exact PartsAt.eq (h := nT2) p R2.1
  rw [(c_yes R4).2, e, n2]
  rfl
/-- The words of a new machine's heap. -/
theorem nT4_gw (j : Nat) : gw nT4.words j = if j = 2046 then 2 else if j = 2045 then 2 else if j = 2044 then 10 else if j = 2002 then 1 else if j = 2001 then 1 else if j = 2000 then 40 else 0 := by
  obtain ⟨e1, e2, _, _, e5⟩ := nT1_num
  have h2 : nT4.words = nT2.words := by rw [nT4_eq]
  have h3 : nT2.words = ((nT1.words.set 2044 10).set 2045 2).set 2046 2 := by
    rw [nT2_eq]
    show ((nT1.words.set nT1.eden.toNat 10).set (nT1.eden.toNat + 1) 2).set (nT1.eden.toNat + 2) nT1.hash = _
    rw [e1, e2]
    rfl
  have h4 : nT1.words = ((newW.set 2000 40).set 2001 1).set 2002 1 := by rw [nT1_eq]; rfl
  rw [h2, h3, gw_set _ _ _ _ (by rw [List.length_set, List.length_set, e5]; omega), gw_set _ _ _ _ (by rw [List.length_set, e5]; omega), gw_set _ _ _ _ (by rw [e5]; omega), h4,
    gw_set _ _ _ _ (by rw [List.length_set, List.length_set, newW_length]; omega), gw_set _ _ _ _ (by rw [List.length_set, newW_length]; omega), gw_set _ _ _ _ (by rw [newW_length]; omega)]
  rw [show gw newW j = 0 from newW_get j]
theorem nT4_ref {a : Nat} (x : Int) (hx : x = 2 * (a : Int) + 1) (ha : a ≤ 3199) (l : List Nat) (hl : obC nT4 = l) (h : a ∈ l) : refB nT4 x = true := by
  subst hx
  have k2 : kindW (2 * (a : Int) + 1) = 2 := by
    unfold kindW adrB
    rw [if_pos (by omega), if_pos (by simp; omega)]
  unfold refB
  rw [k2, hl, show (ints l).contains ((2 * (a : Int) + 1) / 2) = true from by
    rw [List.contains_iff_mem]
    exact List.mem_map.2 ⟨a, h, by omega⟩]
  rfl
theorem nT4_parts : partsB nT4 = true := by
  obtain ⟨l, R, m1, m2⟩ := nT4_right
  have hl := (c_yes R).2
  have hr : nT4.roots = [4001, 4089] := by rw [nT4_eq]
  have f1 := nT4_ref (a := 2000) 4001 (by omega) (by omega) l hl m1
  have f2 := nT4_ref (a := 2044) 4089 (by omega) (by omega) l hl m2
  have g0 : gw nT4.words 2000 = 40 := by rw [nT4_gw]; rfl
  have g1 : gw nT4.words 2001 = 1 := by rw [nT4_gw]; rfl
  have g2 : gw nT4.words 2044 = 10 := by rw [nT4_gw]; rfl
  have g3 : gw nT4.words 2045 = 2 := by rw [nT4_gw]; rfl
  have fz : fldR nT4 0 = List.replicate 40 0 := by
    unfold fldR
    rw [hr]
    show flds nT4.words 2000 = _
    unfold flds
    rw [g0]
    refine List.ext_getElem (by simp) fun i h1 h2 => ?_
    have hi : i < 40 := by simpa using h2
    rw [List.getElem_map, List.getElem_range, List.getElem_replicate, nT4_gw, if_neg (by omega), if_neg (by omega), if_neg (by omega), if_neg (by omega), if_neg (by omega), if_neg (by omega)]
  unfold partsB rootB
  rw [fz, hr]
  show (decide (([4001, 4089] : List Int).length = 2) && ((refB nT4 4001 && (decide (gw nT4.words 2001 = 1) && decide ((gw nT4.words 2000).toNat = 40))) && ((refB nT4 4089 && (decide (gw nT4.words 2045 = 2) && decide ((gw nT4.words 2044).toNat = 10))) && stkB (List.replicate 40 0)))) = true
  rw [f1, f2, g0, g1, g2, g3]
  decide
theorem nvM_ok {pr : List Cd} (h : progB pr = true) : (okM nT4 pr 0 [] 0 && partsB nT4) = true := by
  obtain ⟨l, R, _⟩ := nT4_right
  unfold okM
  rw [(c_yes R).1, h, nT4_parts]
  have : placeB pr.length 0 = true := by unfold placeB; simp
  rw [this]
  rfl
theorem zeroM_ok (pr : List Cd) (pc : Int) (ot : List Int) (st : Int) (p : Bool) : (okM zeroH pr pc ot st && p) = false := by
  have : okC zeroH = false := by
    cases h : okC zeroH with
    | false => rfl
    | true =>
      have := (ok_len h).1
      simp [zeroH] at this
  unfold okM
  rw [this]
  rfl

end Go.Proofs.YtgacacbncefeaaaGreat

/- NewVm of the program. -/
namespace Go.Proofs.YtgacacbncefeaaaGreat
open Go.RowKit

theorem zero_vn (B : Nat) (w : World) : VN B w (.agg #[.slice none 0 0, .slice none 0 0, .int .i64 0, .int .i64 0, .int .i64 0, .bool false, .int .i64 0, .slice none 0 0, .slice none 0 0, .int .i64 0, .slice none 0 0, .int .i64 0]) zeroM :=
  ⟨⟨_, _, _, _, _, rfl, zero_hn B w, ⟨⟨_, _, rfl, Nat.le_refl _, fun i hi => absurd hi (Nat.not_lt_zero i)⟩, ⟨_, _, rfl, .inl rfl⟩⟩, ⟨⟨_, _, rfl, Nat.le_refl _, fun i hi => absurd hi (Nat.not_lt_zero i)⟩, ⟨_, _, rfl, .inl rfl⟩⟩, fun _ h => (zero_row h).elim, fun _ h => (zero_row h).elim⟩⟩

theorem iNew1 (v : Value) (w : World) (hv : HR w v newH) : Calls Tryz.prog 35 #[v, .int .i64 1, .int .i64 40] w fun e w' => (∃ u, e = .returned (.tuple #[u, .int .i64 4001, .bool true]) ∧ HN w.heap.size w' u nT1) ∧ Below w.heap.size w w' := by
  have q := implNew_c v newH 1 40 w hv (by show newW.length ≤ _; rw [newW_length]; omega) (by show ([] : List Int).length ≤ _; simp) (by show ([] : List Int).length ≤ _; simp)
  rw [nW1, nq1] at q
  exact q
theorem iNew2 (v : Value) (w : World) (hv : HR w v nT1) : Calls Tryz.prog 35 #[v, .int .i64 2, .int .i64 10] w fun e w' => (∃ u, e = .returned (.tuple #[u, .int .i64 4089, .bool true]) ∧ HN w.heap.size w' u nT2) ∧ Below w.heap.size w w' := by
  obtain ⟨⟨l1, l2, l3⟩, _⟩ := nT_len
  have q := implNew_c v nT1 2 10 w hv (by omega) (by omega) (by omega)
  rw [nW2, nq2] at q
  exact q
theorem iAdd1 (v : Value) (w : World) (hv : HR w v nT2) : Calls Tryz.prog 37 #[v, .int .i64 4001] w fun e w' => (∃ u, e = .returned (.tuple #[u, .bool true]) ∧ HN w.heap.size w' u nT3) ∧ Below w.heap.size w w' := by
  obtain ⟨_, ⟨l1, l2, l3⟩, _⟩ := nT_len
  have q := implAddRoot_c v nT2 4001 w hv (by omega) (by omega) (by omega)
  rw [nq3] at q
  exact q
theorem iAdd2 (v : Value) (w : World) (hv : HR w v nT3) : Calls Tryz.prog 37 #[v, .int .i64 4089] w fun e w' => (∃ u, e = .returned (.tuple #[u, .bool true]) ∧ HN w.heap.size w' u nT4) ∧ Below w.heap.size w w' := by
  obtain ⟨_, _, ⟨l1, l2, l3⟩, _⟩ := nT_len
  have q := implAddRoot_c v nT3 4089 w hv (by omega) (by omega) (by omega)
  rw [nq4] at q
  exact q

set_option maxRecDepth 100000 in
set_option maxHeartbeats 3200000 in
theorem implNewVm_any (vp : Value) (pr : List Cd) (w : World) (ip : CR w vp pr) (hl : pr.length ≤ 1000000000) :
    Calls Tryz.prog 9 #[vp] w fun e w' => (∃ v, e = .returned (.tuple #[v, .bool (progB pr)]) ∧ VN w.heap.size w' v (nvR pr)) ∧ Below w.heap.size w w' := by
  obtain ⟨M, hM⟩ : ∃ M, M = nvR pr := ⟨_, rfl⟩
  rw [← hM]
  replace hM : Hid (M = nvR pr) := hM
  have hb0 := bel_one w (.cells #[.slice none 0 0, .slice none 0 0, .int .i64 0, .int .i64 0, .int .i64 0, .bool false, .int .i64 0, .slice none 0 0, .slice none 0 0, .int .i64 0, .slice none 0 0, .int .i64 0] 30)
  have R0 : Bk (w.alloc (.cells #[.slice none 0 0, .slice none 0 0, .int .i64 0, .int .i64 0, .int .i64 0, .bool false, .int .i64 0, .slice none 0 0, .slice none 0 0, .int .i64 0, .slice none 0 0, .int .i64 0] 30)) w.heap.size #[.slice none 0 0, .slice none 0 0, .int .i64 0, .int .i64 0, .int .i64 0, .bool false, .int .i64 0, .slice none 0 0, .slice none 0 0, .int .i64 0, .slice none 0 0, .int .i64 0] 30 := Bk.new w _ _
  have P0 := isProgram_any vp pr _ (ip.later hb0) hl
  have ltR := R0.lt
  go_enter Tryz.func9, Tryz.ntmps9
  go_wp2_with fail
  refine P0.mono ?_
  clear P0
  rintro e w1 ⟨rfl, hb1⟩
  have bw1 := bel_after hb0 hb1
  have R1 := R0.later hb1
  have le1 : w.heap.size + 1 ≤ w1.heap.size := R1.lt
  cases PB : progB pr
  case false =>
    have eM : Hid (M = zeroM) := (by rw [hM.out]; unfold nvR; rw [PB]; rfl : M = zeroM)
    obtain ⟨w2, run2, R2, g2, z2⟩ := R1.store 30 #[.slice none 0 0, .slice none 0 0, .int .i64 0, .int .i64 0, .int .i64 0, .bool false, .int .i64 0, .slice none 0 0, .slice none 0 0, .int .i64 0, .slice none 0 0, .int .i64 0] (by simp) (by kernel_rfl) (by simp [Value.oneCell'])
    have bw2 : Below w.heap.size w w2 := Below.grown bw1 g2 bw1.size (fun q hq => by cases hq; omega)
    clear ltR
    go_wp2_with (refine wp_storeK run2 rfl _ _ rfl rfl rfl rfl ?_)
    have r0 := R2.cell 0 (.slice none 0 0) rfl
    have r1 := R2.cell 1 (.slice none 0 0) rfl
    have r2 := R2.cell 2 (.int .i64 0) rfl
    have r3 := R2.cell 3 (.int .i64 0) rfl
    have r4 := R2.cell 4 (.int .i64 0) rfl
    have r5 := R2.cell 5 (.bool false) rfl
    have r6 := R2.cell 6 (.int .i64 0) rfl
    have r7 := R2.cell 7 (.slice none 0 0) rfl
    have r8 := R2.cell 8 (.slice none 0 0) rfl
    have r9 := R2.cell 9 (.int .i64 0) rfl
    have r10 := R2.cell 10 (.slice none 0 0) rfl
    have r11 := R2.cell 11 (.int .i64 0) rfl
    exact bodyPost_ret (v := .tuple #[.agg #[.slice none 0 0, .slice none 0 0, .int .i64 0, .int .i64 0, .int .i64 0, .bool false, .int .i64 0, .slice none 0 0, .slice none 0 0, .int .i64 0, .slice none 0 0, .int .i64 0], .bool false]) (by simp [results, Tryz.results9, go_sem, r0, r1, r2, r3, r4, r5, r6, r7, r8, r9, r10, r11]) rfl ⟨⟨_, by rw [PB], by rw [eM.out]; exact zero_vn _ _⟩, bw2⟩
  have eM : Hid (M = nvM pr) := (by rw [hM.out]; unfold nvR; rw [PB]; rfl : M = nvM pr)
  replace PB : Hid (progB pr = true) := PB
  clear ltR hb1 hb0 hM
  have IP1 := ip.later bw1
  go_wp2_with fail
  refine (implNewHeap_any w1).mono ?_
  rintro e w2 ⟨⟨u0, rfl, h0⟩, hb2⟩
  have bw2 := bel_after bw1 hb2
  have R2 := R1.later hb2
  have IP2 := IP1.later hb2
  have C := iNew1 u0 w2 h0.hr
  clear h0 R0 R1 IP1
  go_wp2_with fail
  refine C.mono ?_
  clear C
  rintro e w3 ⟨⟨u1, rfl, h1⟩, hb3⟩
  have bw3 := bel_after bw2 hb3
  have R3 := R2.later hb3
  have IP3 := IP2.later hb3
  obtain ⟨a1, c1, b1, d1, e1, f1, rfl, -⟩ := h1.out
  have al := bel_one w3 (.cells #[.slice a1 nT1.words.length c1, .slice b1 nT1.roots.length d1, .int .i64 nT1.old, .int .i64 nT1.eden, .int .i64 nT1.surv, .bool nT1.flip, .int .i64 nT1.hash, .slice e1 nT1.kept.length f1] 28)
  have X4 : Bk (w3.alloc (.cells #[.slice a1 nT1.words.length c1, .slice b1 nT1.roots.length d1, .int .i64 nT1.old, .int .i64 nT1.eden, .int .i64 nT1.surv, .bool nT1.flip, .int .i64 nT1.hash, .slice e1 nT1.kept.length f1] 28)) w3.heap.size #[.slice a1 nT1.words.length c1, .slice b1 nT1.roots.length d1, .int .i64 nT1.old, .int .i64 nT1.eden, .int .i64 nT1.surv, .bool nT1.flip, .int .i64 nT1.hash, .slice e1 nT1.kept.length f1] 28 := Bk.new w3 _ _
  have R4 := R3.later al
  have IP4 := IP3.later al
  have bw4 := bel_after bw3 al
  have le3 : w.heap.size + 1 ≤ w3.heap.size := R3.lt
  have C := iNew2 _ _ (h1.later al).hr
  have x0 := X4.cell 0 (.slice a1 nT1.words.length c1) rfl
  have x1 := X4.cell 1 (.slice b1 nT1.roots.length d1) rfl
  have x2 := X4.cell 2 (.int .i64 nT1.old) rfl
  have x3 := X4.cell 3 (.int .i64 nT1.eden) rfl
  have x4 := X4.cell 4 (.int .i64 nT1.surv) rfl
  have x5 := X4.cell 5 (.bool nT1.flip) rfl
  have x6 := X4.cell 6 (.int .i64 nT1.hash) rfl
  have x7 := X4.cell 7 (.slice e1 nT1.kept.length f1) rfl
  clear h1 R2 R3 IP2 IP3
  go_wp2_with fail
  refine C.mono ?_
  clear C x0 x1 x2 x3 x4 x5 x6 x7
  rintro e w5 ⟨⟨u2, rfl, h2⟩, hb5⟩
  have bw5 := bel_after bw4 hb5
  have R5 := R4.later hb5
  have X5 := X4.later hb5
  have IP5 := IP4.later hb5
  have sz4 : (w3.alloc (.cells #[.slice a1 nT1.words.length c1, .slice b1 nT1.roots.length d1, .int .i64 nT1.old, .int .i64 nT1.eden, .int .i64 nT1.surv, .bool nT1.flip, .int .i64 nT1.hash, .slice e1 nT1.kept.length f1] 28)).heap.size = w3.heap.size + 1 := by simp
  obtain ⟨a2, c2, b2, d2, e2, f2, rfl, -⟩ := h2.out
  have OK2 : (#[.slice a2 nT2.words.length c2, .slice b2 nT2.roots.length d2, .int .i64 nT2.old, .int .i64 nT2.eden, .int .i64 nT2.surv, .bool nT2.flip, .int .i64 nT2.hash, .slice e2 nT2.kept.length f2] : Array Value).all (·.oneCell') = true := by simp [Value.oneCell']
  obtain ⟨w6, run6, X6, g6, z6⟩ := X5.store 28 #[.slice a2 nT2.words.length c2, .slice b2 nT2.roots.length d2, .int .i64 nT2.old, .int .i64 nT2.eden, .int .i64 nT2.surv, .bool nT2.flip, .int .i64 nT2.hash, .slice e2 nT2.kept.length f2] (by simp) (by kernel_rfl) OK2
  have R6 := R5.off g6 (by intro e; injection e with e; omega)
  have bw6 : Below w.heap.size w w6 := Below.grown bw5 g6 bw5.size (fun q hq => by cases hq; omega)
  have IP6 : CR w6 vp pr := ip.later bw6
  have h2' := h2.keep (w' := w6) (fun b p q => g6.block b q (by intro e; injection e with e; omega))
  have C := iAdd1 _ _ h2'.hr
  have x0 := X6.cell 0 (.slice a2 nT2.words.length c2) rfl
  have x1 := X6.cell 1 (.slice b2 nT2.roots.length d2) rfl
  have x2 := X6.cell 2 (.int .i64 nT2.old) rfl
  have x3 := X6.cell 3 (.int .i64 nT2.eden) rfl
  have x4 := X6.cell 4 (.int .i64 nT2.surv) rfl
  have x5 := X6.cell 5 (.bool nT2.flip) rfl
  have x6 := X6.cell 6 (.int .i64 nT2.hash) rfl
  have x7 := X6.cell 7 (.slice e2 nT2.kept.length f2) rfl
  clear h2 h2' R4 R5 X4 X5 IP4 IP5 g6 OK2
  go_wp2_with (refine wp_storeK run6 rfl _ _ rfl rfl rfl rfl ?_)
  refine C.mono ?_
  clear C x0 x1 x2 x3 x4 x5 x6 x7 run6
  rintro e w7 ⟨⟨u3, rfl, h3⟩, hb7⟩
  have bw7 := bel_after bw6 hb7
  have R7 := R6.later hb7
  have X7 := X6.later hb7
  have lt6 := X6.lt
  obtain ⟨a3, c3, b3, d3, e3, f3, rfl, -⟩ := h3.out
  have OK3 : (#[.slice a3 nT3.words.length c3, .slice b3 nT3.roots.length d3, .int .i64 nT3.old, .int .i64 nT3.eden, .int .i64 nT3.surv, .bool nT3.flip, .int .i64 nT3.hash, .slice e3 nT3.kept.length f3] : Array Value).all (·.oneCell') = true := by simp [Value.oneCell']
  obtain ⟨w8, run8, X8, g8, z8⟩ := X7.store 28 #[.slice a3 nT3.words.length c3, .slice b3 nT3.roots.length d3, .int .i64 nT3.old, .int .i64 nT3.eden, .int .i64 nT3.surv, .bool nT3.flip, .int .i64 nT3.hash, .slice e3 nT3.kept.length f3] (by simp) (by kernel_rfl) OK3
  have R8 := R7.off g8 (by intro e; injection e with e; omega)
  have bw8 : Below w.heap.size w w8 := Below.grown bw7 g8 bw7.size (fun q hq => by cases hq; omega)
  have h3' := h3.keep (w' := w8) (fun b p q => g8.block b q (by intro e; injection e with e; omega))
  have C := iAdd2 _ _ h3'.hr
  have x0 := X8.cell 0 (.slice a3 nT3.words.length c3) rfl
  have x1 := X8.cell 1 (.slice b3 nT3.roots.length d3) rfl
  have x2 := X8.cell 2 (.int .i64 nT3.old) rfl
  have x3 := X8.cell 3 (.int .i64 nT3.eden) rfl
  have x4 := X8.cell 4 (.int .i64 nT3.surv) rfl
  have x5 := X8.cell 5 (.bool nT3.flip) rfl
  have x6 := X8.cell 6 (.int .i64 nT3.hash) rfl
  have x7 := X8.cell 7 (.slice e3 nT3.kept.length f3) rfl
  have lt8 := X8.lt
  clear h3 h3' R6 R7 X6 X7 IP6 g8 OK3
  go_wp2_with (refine wp_storeK run8 rfl _ _ rfl rfl rfl rfl ?_)
  refine C.mono ?_
  clear C x0 x1 x2 x3 x4 x5 x6 x7 run8
  rintro e w9 ⟨⟨u4, rfl, h4⟩, hb9⟩
  have bw9 := bel_after bw8 hb9
  have R9 := R8.later hb9
  have X9 := X8.later hb9
  obtain ⟨a4, c4, b4, d4, e4, f4, rfl, -⟩ := h4.out
  have OK4 : (#[.slice a4 nT4.words.length c4, .slice b4 nT4.roots.length d4, .int .i64 nT4.old, .int .i64 nT4.eden, .int .i64 nT4.surv, .bool nT4.flip, .int .i64 nT4.hash, .slice e4 nT4.kept.length f4] : Array Value).all (·.oneCell') = true := by simp [Value.oneCell']
  obtain ⟨w10, run10, X10, g10, z10⟩ := X9.store 28 #[.slice a4 nT4.words.length c4, .slice b4 nT4.roots.length d4, .int .i64 nT4.old, .int .i64 nT4.eden, .int .i64 nT4.surv, .bool nT4.flip, .int .i64 nT4.hash, .slice e4 nT4.kept.length f4] (by simp) (by kernel_rfl) OK4
  have R10 := R9.off g10 (by intro e; injection e with e; omega)
  have bw10 : Below w.heap.size w w10 := Below.grown bw9 g10 bw9.size (fun q hq => by cases hq; omega)
  have h4' := h4.keep (w' := w10) (fun b p q => g10.block b q (by intro e; injection e with e; omega))
  clear h4 R8 R9 X8 X9 g10 OK4
  go_wp2_with (refine wp_storeK run10 rfl _ _ rfl rfl rfl rfl ?_)
  refine Disk.z_plain 99 (fun W' => Bk W' w3.heap.size #[.slice a4 nT4.words.length c4, .slice b4 nT4.roots.length d4, .int .i64 nT4.old, .int .i64 nT4.eden, .int .i64 nT4.surv, .bool nT4.flip, .int .i64 nT4.hash, .slice e4 nT4.kept.length f4] 28) (by kernel_rfl) X10.drew fun hz => ?_
  refine Disk.z_take 0 37 (v := .agg #[.slice a4 nT4.words.length c4, .slice b4 nT4.roots.length d4, .int .i64 nT4.old, .int .i64 nT4.eden, .int .i64 nT4.surv, .bool nT4.flip, .int .i64 nT4.hash, .slice e4 nT4.kept.length f4]) rfl rfl (by kernel_rfl) (by kernel_rfl) (by kernel_rfl) (by kernel_rfl) (by rfl) hz (fun W' hSw => (by
    have z0 := hSw.cell 0 (.slice a4 nT4.words.length c4) rfl
    have z1 := hSw.cell 1 (.slice b4 nT4.roots.length d4) rfl
    have z2 := hSw.cell 2 (.int .i64 nT4.old) rfl
    have z3 := hSw.cell 3 (.int .i64 nT4.eden) rfl
    have z4 := hSw.cell 4 (.int .i64 nT4.surv) rfl
    have z5 := hSw.cell 5 (.bool nT4.flip) rfl
    have z6 := hSw.cell 6 (.int .i64 nT4.hash) rfl
    have z7 := hSw.cell 7 (.slice e4 nT4.kept.length f4) rfl
    go_simp; first | done | with_reducible rfl)) ?_
  simp only [List.setIfInBounds_toArray, List.set_cons_zero, List.set_cons_succ]
  refine Disk.z_take 1 38 (v := vp) rfl rfl (by kernel_rfl) (by kernel_rfl) (by kernel_rfl) (by kernel_rfl) (by rfl) hz (fun W' hSw => (by
    clear hSw
    go_simp; first | done | with_reducible rfl)) ?_
  simp only [List.setIfInBounds_toArray, List.set_cons_zero, List.set_cons_succ]
  refine Disk.z_call 2 39 rfl rfl (by kernel_rfl) (by rfl) (f := 38) (args := #[vp]) (w0 := w10.drew) (by go_simp; first | done | with_reducible rfl) ?_
  refine (copyCodes_any vp pr w10.drew (ip.later bw10.drew) (by omega)).mono ?_
  rintro e w11 ⟨⟨rfl, rc, lt11⟩, hb11⟩
  have b11 : Below w10.heap.size w10 w11 := bel_after (Below.refl _ _).drew hb11
  obtain ⟨gp, egp⟩ : ∃ x, x = w10.drew.heap.size := ⟨_, rfl⟩
  have egp2 : gp = w10.heap.size := egp
  rw [← egp] at rc lt11 ⊢
  clear egp
  have X11 := X10.later b11
  have R11 := R10.later b11
  have h11 := h4'.later b11
  have bw11 := bel_after bw10 b11
  refine ⟨_, rfl, .inr X11, ?_⟩
  simp only [List.setIfInBounds_toArray, List.set_cons_zero, List.set_cons_succ]
  have hi4 : ∀ b, (Disk.rowOf (.slice a4 nT4.words.length c4) nT4.words.length = some b ∨ Disk.rowOf (.slice b4 nT4.roots.length d4) nT4.roots.length = some b ∨ Disk.rowOf (.slice e4 nT4.kept.length f4) nT4.kept.length = some b) → b < gp := fun b hb => by
    obtain ⟨⟨o1, o2, o3⟩, _⟩ := h4'.irs
    rcases hb with hb | hb | hb
    · have := o1.row b hb; omega
    · have := o2.row b hb; omega
    · have := o3.row b hb; omega
  have ltx : w3.heap.size < gp := by have := X10.lt; omega
  have sz8 : w8.heap.size ≥ w3.heap.size := by omega
  clear egp2
  refine Disk.z_take 3 40 (v := .agg #[.slice a4 nT4.words.length c4, .slice b4 nT4.roots.length d4, .int .i64 nT4.old, .int .i64 nT4.eden, .int .i64 nT4.surv, .bool nT4.flip, .int .i64 nT4.hash, .slice e4 nT4.kept.length f4, .slice (some ⟨gp, 0, none⟩) pr.length pr.length, .int .i64 0, .slice none 0 0, .int .i64 0]) rfl rfl (by kernel_rfl) (by kernel_rfl) (by kernel_rfl) (by kernel_rfl) (by rfl) X11 (fun W' hSw => (by
    clear hSw
    go_simp; first | done | with_reducible rfl)) ?_
  simp only [List.setIfInBounds_toArray, List.set_cons_zero, List.set_cons_succ]
  have OKV : (#[.slice a4 nT4.words.length c4, .slice b4 nT4.roots.length d4, .int .i64 nT4.old, .int .i64 nT4.eden, .int .i64 nT4.surv, .bool nT4.flip, .int .i64 nT4.hash, .slice e4 nT4.kept.length f4, .slice (some ⟨gp, 0, none⟩) pr.length pr.length, .int .i64 0, .slice none 0 0, .int .i64 0] : Array Value).all (·.oneCell') = true := by simp [Value.oneCell']
  obtain ⟨w12, run12, R12, g12, z12⟩ := R11.store 30 #[.slice a4 nT4.words.length c4, .slice b4 nT4.roots.length d4, .int .i64 nT4.old, .int .i64 nT4.eden, .int .i64 nT4.surv, .bool nT4.flip, .int .i64 nT4.hash, .slice e4 nT4.kept.length f4, .slice (some ⟨gp, 0, none⟩) pr.length pr.length, .int .i64 0, .slice none 0 0, .int .i64 0] (by simp) (by kernel_rfl) OKV
  have X12 := X11.off g12 (by intro e; injection e with e; omega)
  have bw12 : Below w.heap.size w w12 := Below.grown bw11 g12 bw11.size (fun q hq => by cases hq; omega)
  have h12 := h11.keep (w' := w12) (fun b p q => g12.block b q (by intro e; injection e with e; omega))
  have rc12 := rc.block (g12.block gp rc.lt (by intro e; injection e with e; omega))
  have VNK : VN w.heap.size w12 (.agg #[.slice a4 nT4.words.length c4, .slice b4 nT4.roots.length d4, .int .i64 nT4.old, .int .i64 nT4.eden, .int .i64 nT4.surv, .bool nT4.flip, .int .i64 nT4.hash, .slice e4 nT4.kept.length f4, .slice (some ⟨gp, 0, none⟩) pr.length pr.length, .int .i64 0, .slice none 0 0, .int .i64 0]) (nvM pr) := by
    refine ⟨⟨_, _, _, _, _, rfl, h12.down (by omega), ⟨rc12.cr (Nat.le_refl _), rc12.os⟩, ⟨⟨_, _, rfl, Nat.le_refl _, fun i hi => absurd hi (Nat.not_lt_zero i)⟩, ⟨_, _, rfl, .inl rfl⟩⟩, fun b hb => ?_, fun b hb => (zero_row hb).elim⟩⟩
    obtain rfl := rowof hb
    exact ⟨by omega, fun e => by have := hi4 _ (.inl e); omega, fun e => by have := hi4 _ (.inr (.inl e)); omega, fun e => by have := hi4 _ (.inr (.inr e)); omega, fun e => (zero_row e).elim⟩
  clear h4' h11 h12 rc rc12 hi4 R10 R11 X10 hz g12 OKV
  refine Disk.z_skip 4 rfl rfl (by kernel_rfl) (by rfl) (exec_storeQ rfl rfl rfl run12) (.inr X12) ?_
  refine Disk.z_take 5 3 (v := .bool true) rfl rfl (by kernel_rfl) (by kernel_rfl) (by kernel_rfl) (by kernel_rfl) (by rfl) X12 (fun W' hSw => (by
    clear hSw
    go_simp; first | done | with_reducible rfl)) ?_
  simp only [List.setIfInBounds_toArray, List.set_cons_zero, List.set_cons_succ]
  refine Disk.z_done (by kernel_rfl) ?_ _
  have r0 := R12.cell 0 (.slice a4 nT4.words.length c4) rfl
  have r1 := R12.cell 1 (.slice b4 nT4.roots.length d4) rfl
  have r2 := R12.cell 2 (.int .i64 nT4.old) rfl
  have r3 := R12.cell 3 (.int .i64 nT4.eden) rfl
  have r4 := R12.cell 4 (.int .i64 nT4.surv) rfl
  have r5 := R12.cell 5 (.bool nT4.flip) rfl
  have r6 := R12.cell 6 (.int .i64 nT4.hash) rfl
  have r7 := R12.cell 7 (.slice e4 nT4.kept.length f4) rfl
  have r8 := R12.cell 8 (.slice (some ⟨gp, 0, none⟩) pr.length pr.length) rfl
  have r9 := R12.cell 9 (.int .i64 0) rfl
  have r10 := R12.cell 10 (.slice none 0 0) rfl
  have r11 := R12.cell 11 (.int .i64 0) rfl
  clear X11 X12 run12
  go_wp2
  exact bodyPost_ret (v := .tuple #[.agg #[.slice a4 nT4.words.length c4, .slice b4 nT4.roots.length d4, .int .i64 nT4.old, .int .i64 nT4.eden, .int .i64 nT4.surv, .bool nT4.flip, .int .i64 nT4.hash, .slice e4 nT4.kept.length f4, .slice (some ⟨gp, 0, none⟩) pr.length pr.length, .int .i64 0, .slice none 0 0, .int .i64 0], .bool true]) (by simp [results, Tryz.results9, go_sem, r0, r1, r2, r3, r4, r5, r6, r7, r8, r9, r10, r11]) rfl ⟨⟨_, by rw [PB.out], by rw [eM.out]; exact VNK⟩, bw12⟩

end Go.Proofs.YtgacacbncefeaaaGreat

/- l13Program and VmOk of the model. -/
namespace Go.Proofs.YtgacacbncefeaaaGreat
open Go.RowKit

set_option maxHeartbeats 800000 in
theorem specProgB_any (u : Value) (ws : List Cd) (w : World) (hu : CR w u ws) (h2 : ws.length ≤ 1000000000) :
    Calls Tryz.prog 39 #[u] w fun e w' => e = .returned (.bool (progB ws)) ∧ Below w.heap.size w w' := by
  obtain ⟨ao, cap, rfl, _, hc⟩ := hu
  by_cases hl : ws.length ≤ 100
  case neg =>
    have OB : Hid (progB ws = false) := (by unfold progB; rw [decide_eq_false hl]; rfl : progB ws = false)
    have dl : decide ((ws.length : Int) > 100) = true := decide_eq_true (by omega)
    clear hc
    go_enter Tryz.func39, Tryz.ntmps39
    go_wp2
    go_ret
    exact ⟨wret_bool OB.out.symm, Below.refl _ _⟩
  have OB : Hid (progB ws = ws.all fun p => cokB p.1 p.2) := (by unfold progB; rw [decide_eq_true hl]; rfl : progB ws = ws.all fun p => cokB p.1 p.2)
  have dl : decide ((ws.length : Int) > 100) = false := decide_eq_false (by omega)
  go_enter Tryz.func39, Tryz.ntmps39
  go_wp2
  go_loopw [3] (fun kv wr => ∃ k : Nat, k ≤ ws.length ∧ kv = .int .i64 k ∧ Hid (∀ j, j < k → cokB (ws.getD j cd0).1 (ws.getD j cd0).2 = true) ∧ Below w.heap.size w wr) (fun kv _ => ws.length - (intOf kv).toNat)
  case atStart => exact ⟨0, Nat.zero_le _, rfl, fun j hj => absurd hj (Nat.not_lt_zero j), Below.refl _ _⟩
  case round =>
    obtain ⟨k, hk, rfl, hd, hbw⟩ := hrel
    by_cases hlt : k < ws.length
    · obtain ⟨b, o, rfl, ck, cl⟩ := hc k hlt
      have ck' := cell_later hbw ck
      have cl' := cell_later hbw cl
      have NX : Hid (cokB (ws.getD k cd0).1 (ws.getD k cd0).2 = true → ∀ j, j < k + 1 → cokB (ws.getD j cd0).1 (ws.getD j cd0).2 = true) := fun e => all_upto hd.out e
      have BAD : Hid (cokB (ws.getD k cd0).1 (ws.getD k cd0).2 = false → (ws.all fun p => cokB p.1 p.2) = false) := fun e => by
        rw [Bool.eq_false_iff]
        intro q
        have := List.all_eq_true.1 q (ws.getD k cd0) (by simp [hlt])
        rw [this] at e
        cases e
      clear hc ck cl hd
      generalize ws.getD k cd0 = s at *
      obtain ⟨x, y⟩ := s
      have P := fun W => specCodeOk_any x y W
      unfold codeV at P
      cases hx : cokB x y
      · rw [hx] at P
        have N : Hid ((ws.all fun p => cokB p.1 p.2) = false) := BAD.out hx
        clear NX BAD hx
        go_wp2_with fail
        refine (P _).mono ?_
        rintro e w1 ⟨rfl, hb1⟩
        have hbw1 := bel_after hbw hb1
        go_wp2
        go_ret
        exact ⟨wret_bool (by rw [OB.out, N.out]), hbw1⟩
      · rw [hx] at P
        have N : Hid (∀ j, j < k + 1 → cokB (ws.getD j cd0).1 (ws.getD j cd0).2 = true) := NX.out hx
        clear NX BAD hx
        go_wp2_with fail
        refine (P _).mono ?_
        rintro e w1 ⟨rfl, hb1⟩
        have hbw1 := bel_after hbw hb1
        go_wp2
        go_roundw
        case rel => exact ⟨k + 1, by omega, by go_num, N, hbw1⟩
        case measure => simp [intOf]; omega
    · obtain rfl : k = ws.length := by omega
      have G : Hid ((ws.all fun p => cokB p.1 p.2) = true) := (by
        rw [List.all_eq_true]
        intro p hp
        obtain ⟨i, hi, e⟩ := List.getElem_of_mem hp
        have q := hd.out i hi
        rw [show ws.getD i cd0 = p from by simp [hi, e]] at q
        exact q : (ws.all fun p => cokB p.1 p.2) = true)
      clear hd hc
      go_wp2
      go_ret
      exact ⟨wret_bool (by rw [OB.out, G.out]), hbw⟩

/-- The parts, as the model reads them. -/
theorem parts_of {h : Hp} (hk : okC h = true) (hr : h.roots.length = 2) : ∀ k, k < 2 → (kindW (h.roots.getD k 0) = 2 ∧ (h.roots.getD k 0) % 2 = 1 ∧ refB h (h.roots.getD k 0) = true ∧ ∃ a : Nat, h.roots.getD k 0 = 2 * (a : Int) + 1 ∧ a ∈ obC h ∧ a + 4 ≤ 3200 ∧ nx h.words a ≤ 3200 ∧ (0 ≤ gw h.words a ∧ gw h.words a ≤ 60)) ∨ (kindW (h.roots.getD k 0) = 1 ∧ (h.roots.getD k 0) % 2 = 0 ∧ refB h (h.roots.getD k 0) = false) := by
  intro k hk2
  have RG := c_right hk
  have hm : h.roots.getD k 0 ∈ h.roots := by
    have : k < h.roots.length := by omega
    simp [this]
  have hf := RG.2.2.2.2.2.2.1 _ hm
  rcases el_cases h (.slice none 0 0) (h.roots.getD k 0) with ⟨_, n, q⟩ | ⟨_, _, n, k1⟩ | ⟨_, r, a, ha, ea, k2, _⟩
  · exfalso
    have k1 := q hk
    rw [hk, Bool.and_true] at n
    unfold fitB at hf
    unfold refB at n
    rw [n, decide_eq_false k1] at hf
    cases hf
  · refine .inr ⟨k1, ?_, n⟩
    unfold kindW at k1
    split at k1
    · split at k1 <;> omega
    · omega
  · have od : h.roots.getD k 0 % 2 = 1 := by
      unfold kindW at k2
      split at k2
      · assumption
      · split at k2 <;> omega
    obtain ⟨q1, q2, q3⟩ := RG.1.obj ha
    exact .inl ⟨k2, od, r, a, by omega, ha, q1, q2, size_of q3⟩

end Go.Proofs.YtgacacbncefeaaaGreat

/- Result of the program and of the model. -/
namespace Go.Proofs.YtgacacbncefeaaaGreat
open Go.RowKit

theorem exec_appK {o : Oper} {a : Act} {w w' : World} {u : Value} {t : TypeId} (s x : Operand) (ho : o.op = .call { callee := .builtin .append, args := #[s, x], argTypes := #[t, t] }) (v y : Value) (hs : a.eval s = v) (hx : a.eval x = y)
    (hr : (Builtin.append_ #[t, t] o.type #[v, y]).run Tryz.prog w = .ok u w') : (execOp a.eval o).run Tryz.prog w = .ok (.value u) w' := by
  unfold execOp
  simp only [ho, resolve, invoke, builtin, Sem.run_bind, Sem.run_pure, Result.andThen_ok, List.map_toArray, List.map_cons, List.map_nil, hs, hx, hr]
/-- append of whatever numbers to an empty row of the call's own, as a run. -/
theorem run_appK (w : World) (ty : TypeId) (g : Nat) (hR : RI w g [] 0) (v : Value) (l : List Int) (hI : IR w v l) (hl : l.length ≤ 1000000000000) :
    ∃ u w', (Builtin.append_ #[26, 26] ty #[.slice (some ⟨g, 0, none⟩) 0 0, v]).run Tryz.prog w = .ok u w' ∧ IR w' u l ∧ Disk.OS w' 2 1 u l.length ∧ w.grownBy w' (some g) ∧ (∀ b, Disk.rowOf u l.length = some b → b = g ∨ b = w.heap.size) := by
  obtain ⟨ao, cp, rfl, _, hc⟩ := hI
  by_cases h0 : l.length = 0
  · obtain rfl : l = [] := List.eq_nil_of_length_eq_zero h0
    exact ⟨_, w, run_append_zero ty g 0 0 cp ao (Nat.le_refl _) w, ⟨_, _, rfl, Nat.le_refl _, fun i hi => absurd hi (Nat.not_lt_zero i)⟩, ⟨_, _, rfl, .inl rfl⟩, ⟨rfl, rfl, rfl, Nat.le_refl _, fun _ _ _ => rfl⟩, fun b hb => by unfold Disk.rowOf at hb; simp at hb⟩
  · obtain ⟨i, hi, hzz⟩ := Option.map_eq_some_iff.1 Tryz.infoI
    simp only [Prod.mk.injEq] at hzz
    obtain ⟨hz, hsz, hby⟩ := hzz
    obtain ⟨b, q, rfl, _⟩ := hc 0 (by omega)
    have ow := hR.owns (B := 0) (Nat.zero_le _) (by unfold maxLen; omega)
    simp only [List.length_nil] at ow
    obtain ⟨v', w', run, h1, h2, h3, h4⟩ := run_append_own_at (P := Tryz.prog) w 0 26 ty 2 i _ 1 8 Tryz.underlying26 hi hz hsz hby rfl (by omega) _ 0 (icells []) ow ⟨b, q, none⟩ l.length cp (icells l) (by simp [icells]) (fun j u hj => by
      have hj' : j < l.length := by
        rcases Nat.lt_or_ge j l.length with k | k
        · exact k
        · rw [List.getElem?_eq_none (by rw [icells_length]; exact k)] at hj; cases hj
      obtain ⟨b', q', e2, hcell⟩ := hc j hj'
      simp only [Option.some.injEq, Addr.mk.injEq, and_true] at e2
      obtain ⟨rfl, rfl⟩ := e2
      have hu : u = .int .i64 (l.getD j 0) := by
        simp [icells, hj'] at hj
        rw [← hj]
        simp [hj']
      rw [hu, ← hcell]
      unfold Addr.add
      split
      · subst j; rfl
      · simp) (fun u hu => by
      obtain ⟨z, _, rfl⟩ := List.mem_map.1 hu
      rfl) (by unfold maxLen; omega) (by omega) (Nat.zero_le _)
    have e3 : icells [] ++ icells l = icells l := rfl
    rw [e3, Nat.zero_add] at h1
    refine ⟨v', w', run, IR_of_owns h1, OS_of_owns h1, h2, fun b hb => ?_⟩
    have hb2 : v'.ownBlock = some b := by
      unfold Disk.rowOf at hb
      rw [if_neg h0] at hb
      exact hb
    rcases h4 with e | e
    · left
      rw [hb2] at e
      simpa [Value.ownBlock] using e
    · right
      rw [hb2] at e
      simpa using e

noncomputable def resL (m : Mp) : List Int := if (okM m.h m.prog m.pc m.out m.st && partsB m.h) = true then m.out else []
noncomputable def resS (m : Mp) : Int := if (okM m.h m.prog m.pc m.out m.st && partsB m.h) = true then m.st else -1
/-- What Result answers. -/
def ResOut (m : Mp) (B : Nat) (e : Ending) (w' : World) : Prop := ∃ u, e = .returned (.tuple #[u, .int .i64 (resS m)]) ∧ IR w' u (resL m) ∧ Disk.OS w' 2 1 u (resL m).length ∧ ∀ b, Disk.rowOf u (resL m).length = some b → B ≤ b
theorem ResOut.yes {m : Mp} {B : Nat} {w' : World} {u : Value} (r : (okM m.h m.prog m.pc m.out m.st && partsB m.h) = true) (h1 : IR w' u m.out) (h2 : Disk.OS w' 2 1 u m.out.length) (h3 : ∀ b, Disk.rowOf u m.out.length = some b → B ≤ b) : ResOut m B (.returned (.tuple #[u, .int .i64 m.st])) w' := by
  have e1 : resL m = m.out := by unfold resL; rw [if_pos r]
  have e2 : resS m = m.st := by unfold resS; rw [if_pos r]
  unfold ResOut
  rw [e1, e2]
  exact ⟨u, rfl, h1, h2, h3⟩
theorem ResOut.no {m : Mp} {B c : Nat} {w' : World} {ao : Option Addr} (r : (okM m.h m.prog m.pc m.out m.st && partsB m.h) = false) : ResOut m B (.returned (.tuple #[.slice ao 0 c, .int .i64 (-1)])) w' := by
  have e1 : resL m = [] := by unfold resL; rw [if_neg (by rw [r]; simp)]
  have e2 : resS m = -1 := by unfold resS; rw [if_neg (by rw [r]; simp)]
  unfold ResOut
  rw [e1, e2]
  exact ⟨_, rfl, ⟨_, _, rfl, Nat.zero_le _, fun i hi => absurd hi (Nat.not_lt_zero i)⟩, ⟨_, _, rfl, .inl rfl⟩, fun b hb => by unfold Disk.rowOf at hb; simp at hb⟩

set_option maxRecDepth 100000 in
set_option maxHeartbeats 1600000 in
theorem implResult_any (v : Value) (m : Mp) (w : World) (hv : VR w v m) (hs : smM m 1000000000) :
    Calls Tryz.prog 25 #[v] w fun e w' => ResOut m w.heap.size e w' ∧ Below w.heap.size w w' := by
  obtain ⟨v1, v2, v3, vp, vo, rfl, i1, i2, i3, ip, io⟩ := hv
  obtain ⟨s1, s2, s3, s4, s5⟩ := hs
  have hb0 := bel_one w (.cells #[v1, v2, .int .i64 m.h.old, .int .i64 m.h.eden, .int .i64 m.h.surv, .bool m.h.flip, .int .i64 m.h.hash, v3, vp, .int .i64 m.pc, vo, .int .i64 m.st] 30)
  have B0 : Bk (w.alloc (.cells #[v1, v2, .int .i64 m.h.old, .int .i64 m.h.eden, .int .i64 m.h.surv, .bool m.h.flip, .int .i64 m.h.hash, v3, vp, .int .i64 m.pc, vo, .int .i64 m.st] 30)) w.heap.size #[v1, v2, .int .i64 m.h.old, .int .i64 m.h.eden, .int .i64 m.h.surv, .bool m.h.flip, .int .i64 m.h.hash, v3, vp, .int .i64 m.pc, vo, .int .i64 m.st] 30 := Bk.new w _ _
  have x0 := B0.cell 0 (v1) rfl
  have x1 := B0.cell 1 (v2) rfl
  have x2 := B0.cell 2 (.int .i64 m.h.old) rfl
  have x3 := B0.cell 3 (.int .i64 m.h.eden) rfl
  have x4 := B0.cell 4 (.int .i64 m.h.surv) rfl
  have x5 := B0.cell 5 (.bool m.h.flip) rfl
  have x6 := B0.cell 6 (.int .i64 m.h.hash) rfl
  have x7 := B0.cell 7 (v3) rfl
  have x8 := B0.cell 8 (vp) rfl
  have x9 := B0.cell 9 (.int .i64 m.pc) rfl
  have x10 := B0.cell 10 (vo) rfl
  have x11 := B0.cell 11 (.int .i64 m.st) rfl
  have MO := machineOf_any v1 v2 v3 vp vo m.h m.prog m.pc m.out m.st _ (i1.later hb0) (i2.later hb0) (i3.later hb0) (ip.later hb0) (io.later hb0) s1 s2 s3 s4 s5
  go_enter Tryz.func25, Tryz.ntmps25
  go_wp2_with fail
  refine MO.mono ?_
  clear MO x0 x1 x2 x3 x4 x5 x6 x7 x8 x9 x10 x11 B0
  rintro e w1 ⟨mk, hb1⟩
  have bw1 := bel_after hb0 hb1
  have le0 := hb0.size
  rcases mk with ⟨ok, g1, g2, g3, P, O, oa, oc, rfl, RO, lO⟩ | ⟨ok, rfl⟩
  · cases hp : partsB m.h
    · have R := ResOut.no (B := w.heap.size) (c := 0) (w' := w1.alloc (.cells #[.slice (some ⟨g1, 0, none⟩) m.h.words.length m.h.words.length, .slice oa (obC m.h).length oc, .slice (some ⟨g2, 0, none⟩) m.h.roots.length m.h.roots.length, .int .i64 m.h.old, .int .i64 m.h.eden, .int .i64 m.h.surv, .bool m.h.flip, .int .i64 m.h.hash, .slice (some ⟨g3, 0, none⟩) m.h.kept.length m.h.kept.length, .slice (some ⟨P, 0, none⟩) m.prog.length m.prog.length, .int .i64 m.pc, .slice (some ⟨O, 0, none⟩) m.out.length m.out.length, .int .i64 m.st] 74)) (ao := none) (m := m) (by rw [ok, hp]; rfl)
      go_wp2
      go_ret2
      exact ⟨R, bw1.alloc bw1.size _⟩
    have al := bel_one w1 (.cells #[.slice (some ⟨g1, 0, none⟩) m.h.words.length m.h.words.length, .slice oa (obC m.h).length oc, .slice (some ⟨g2, 0, none⟩) m.h.roots.length m.h.roots.length, .int .i64 m.h.old, .int .i64 m.h.eden, .int .i64 m.h.surv, .bool m.h.flip, .int .i64 m.h.hash, .slice (some ⟨g3, 0, none⟩) m.h.kept.length m.h.kept.length, .slice (some ⟨P, 0, none⟩) m.prog.length m.prog.length, .int .i64 m.pc, .slice (some ⟨O, 0, none⟩) m.out.length m.out.length, .int .i64 m.st] 74)
    have D2 : Bk (w1.alloc (.cells #[.slice (some ⟨g1, 0, none⟩) m.h.words.length m.h.words.length, .slice oa (obC m.h).length oc, .slice (some ⟨g2, 0, none⟩) m.h.roots.length m.h.roots.length, .int .i64 m.h.old, .int .i64 m.h.eden, .int .i64 m.h.surv, .bool m.h.flip, .int .i64 m.h.hash, .slice (some ⟨g3, 0, none⟩) m.h.kept.length m.h.kept.length, .slice (some ⟨P, 0, none⟩) m.prog.length m.prog.length, .int .i64 m.pc, .slice (some ⟨O, 0, none⟩) m.out.length m.out.length, .int .i64 m.st] 74)) w1.heap.size #[.slice (some ⟨g1, 0, none⟩) m.h.words.length m.h.words.length, .slice oa (obC m.h).length oc, .slice (some ⟨g2, 0, none⟩) m.h.roots.length m.h.roots.length, .int .i64 m.h.old, .int .i64 m.h.eden, .int .i64 m.h.surv, .bool m.h.flip, .int .i64 m.h.hash, .slice (some ⟨g3, 0, none⟩) m.h.kept.length m.h.kept.length, .slice (some ⟨P, 0, none⟩) m.prog.length m.prog.length, .int .i64 m.pc, .slice (some ⟨O, 0, none⟩) m.out.length m.out.length, .int .i64 m.st] 74 := Bk.new w1 _ _
    have RO2 := RO.later al
    have bw2 := bel_after bw1 al
    have R := ResOut.yes (B := w.heap.size) (w' := (w1.alloc (.cells #[.slice (some ⟨g1, 0, none⟩) m.h.words.length m.h.words.length, .slice oa (obC m.h).length oc, .slice (some ⟨g2, 0, none⟩) m.h.roots.length m.h.roots.length, .int .i64 m.h.old, .int .i64 m.h.eden, .int .i64 m.h.surv, .bool m.h.flip, .int .i64 m.h.hash, .slice (some ⟨g3, 0, none⟩) m.h.kept.length m.h.kept.length, .slice (some ⟨P, 0, none⟩) m.prog.length m.prog.length, .int .i64 m.pc, .slice (some ⟨O, 0, none⟩) m.out.length m.out.length, .int .i64 m.st] 74)).drew) (m := m) (by rw [ok, hp]; rfl) ((RO2.later (Below.refl _ _).drew).ir (Nat.le_refl _)) ((RO2.later (Below.refl _ _).drew).os (cap := m.out.length)) (fun b hb => by have := rowof hb; omega)
    go_wp2_with fail
    refine Disk.z_plain 99 (fun W' => Bk W' w1.heap.size #[.slice (some ⟨g1, 0, none⟩) m.h.words.length m.h.words.length, .slice oa (obC m.h).length oc, .slice (some ⟨g2, 0, none⟩) m.h.roots.length m.h.roots.length, .int .i64 m.h.old, .int .i64 m.h.eden, .int .i64 m.h.surv, .bool m.h.flip, .int .i64 m.h.hash, .slice (some ⟨g3, 0, none⟩) m.h.kept.length m.h.kept.length, .slice (some ⟨P, 0, none⟩) m.prog.length m.prog.length, .int .i64 m.pc, .slice (some ⟨O, 0, none⟩) m.out.length m.out.length, .int .i64 m.st] 74) (by kernel_rfl) D2.drew fun hz => ?_
    refine Disk.z_take 0 13 (v := .pointer (some ⟨w1.heap.size, 11, none⟩)) rfl rfl (by kernel_rfl) (by kernel_rfl) (by kernel_rfl) (by kernel_rfl) (by rfl) hz (fun W' hSw => (by
      have z11 := hSw.cell 11 (.slice (some ⟨O, 0, none⟩) m.out.length m.out.length) rfl
      have z12 := hSw.cell 12 (.int .i64 m.st) rfl
      go_simp; first | done | with_reducible rfl)) ?_
    simp only [List.setIfInBounds_toArray, List.set_cons_zero, List.set_cons_succ]
    refine Disk.z_take 1 14 (v := .slice (some ⟨O, 0, none⟩) m.out.length m.out.length) rfl rfl (by kernel_rfl) (by kernel_rfl) (by kernel_rfl) (by kernel_rfl) (by rfl) hz (fun W' hSw => (by
      have z11 := hSw.cell 11 (.slice (some ⟨O, 0, none⟩) m.out.length m.out.length) rfl
      have z12 := hSw.cell 12 (.int .i64 m.st) rfl
      go_simp; first | done | with_reducible rfl)) ?_
    simp only [List.setIfInBounds_toArray, List.set_cons_zero, List.set_cons_succ]
    refine Disk.z_take 2 15 (v := .pointer (some ⟨w1.heap.size, 12, none⟩)) rfl rfl (by kernel_rfl) (by kernel_rfl) (by kernel_rfl) (by kernel_rfl) (by rfl) hz (fun W' hSw => (by
      have z11 := hSw.cell 11 (.slice (some ⟨O, 0, none⟩) m.out.length m.out.length) rfl
      have z12 := hSw.cell 12 (.int .i64 m.st) rfl
      go_simp; first | done | with_reducible rfl)) ?_
    simp only [List.setIfInBounds_toArray, List.set_cons_zero, List.set_cons_succ]
    refine Disk.z_take 3 16 (v := .int .i64 m.st) rfl rfl (by kernel_rfl) (by kernel_rfl) (by kernel_rfl) (by kernel_rfl) (by rfl) hz (fun W' hSw => (by
      have z11 := hSw.cell 11 (.slice (some ⟨O, 0, none⟩) m.out.length m.out.length) rfl
      have z12 := hSw.cell 12 (.int .i64 m.st) rfl
      go_simp; first | done | with_reducible rfl)) ?_
    simp only [List.setIfInBounds_toArray, List.set_cons_zero, List.set_cons_succ]
    refine Disk.z_take 4 2 (v := .slice (some ⟨O, 0, none⟩) m.out.length m.out.length) rfl rfl (by kernel_rfl) (by kernel_rfl) (by kernel_rfl) (by kernel_rfl) (by rfl) hz (fun W' hSw => (by
      have z11 := hSw.cell 11 (.slice (some ⟨O, 0, none⟩) m.out.length m.out.length) rfl
      have z12 := hSw.cell 12 (.int .i64 m.st) rfl
      go_simp; first | done | with_reducible rfl)) ?_
    simp only [List.setIfInBounds_toArray, List.set_cons_zero, List.set_cons_succ]
    refine Disk.z_take 5 3 (v := .int .i64 m.st) rfl rfl (by kernel_rfl) (by kernel_rfl) (by kernel_rfl) (by kernel_rfl) (by rfl) hz (fun W' hSw => (by
      have z11 := hSw.cell 11 (.slice (some ⟨O, 0, none⟩) m.out.length m.out.length) rfl
      have z12 := hSw.cell 12 (.int .i64 m.st) rfl
      go_simp; first | done | with_reducible rfl)) ?_
    simp only [List.setIfInBounds_toArray, List.set_cons_zero, List.set_cons_succ]
    refine Disk.z_done (by kernel_rfl) ?_ _
    clear hz D2
    go_wp2
    go_ret2
    exact ⟨R, bw2.drew⟩
  · have R := ResOut.no (B := w.heap.size) (c := 0) (w' := w1.alloc (.cells #[.slice none 0 0, .slice none 0 0, .slice none 0 0, .int .i64 0, .int .i64 0, .int .i64 0, .bool false, .int .i64 0, .slice none 0 0, .slice none 0 0, .int .i64 0, .slice none 0 0, .int .i64 0] 74)) (ao := none) (m := m) (by rw [ok]; rfl)
    go_wp2
    go_ret2
    exact ⟨R, bw1.alloc bw1.size _⟩

set_option maxRecDepth 100000 in
set_option maxHeartbeats 1600000 in
theorem specResult_any (v : Value) (m : Mp) (w : World) (hv : VR w v m) (hs : smM m 1000000000)
    (SV : ∀ v w, VR w v m → Calls Tryz.prog 22 #[v] w fun e w' => e = .returned (.bool (okM m.h m.prog m.pc m.out m.st && partsB m.h)) ∧ Below w.heap.size w w') :
    Calls Tryz.prog 24 #[v] w fun e w' => ResOut m w.heap.size e w' ∧ Below w.heap.size w w' := by
  have hv0 := hv
  obtain ⟨v1, v2, v3, vp, vo, rfl, i1, i2, i3, ip, io⟩ := hv
  obtain ⟨s1, s2, s3, s4, s5⟩ := hs
  have hb0 := bel_one w (.cells #[v1, v2, .int .i64 m.h.old, .int .i64 m.h.eden, .int .i64 m.h.surv, .bool m.h.flip, .int .i64 m.h.hash, v3, vp, .int .i64 m.pc, vo, .int .i64 m.st] 30)
  have B0 : Bk (w.alloc (.cells #[v1, v2, .int .i64 m.h.old, .int .i64 m.h.eden, .int .i64 m.h.surv, .bool m.h.flip, .int .i64 m.h.hash, v3, vp, .int .i64 m.pc, vo, .int .i64 m.st] 30)) w.heap.size #[v1, v2, .int .i64 m.h.old, .int .i64 m.h.eden, .int .i64 m.h.surv, .bool m.h.flip, .int .i64 m.h.hash, v3, vp, .int .i64 m.pc, vo, .int .i64 m.st] 30 := Bk.new w _ _
  have x0 := B0.cell 0 (v1) rfl
  have x1 := B0.cell 1 (v2) rfl
  have x2 := B0.cell 2 (.int .i64 m.h.old) rfl
  have x3 := B0.cell 3 (.int .i64 m.h.eden) rfl
  have x4 := B0.cell 4 (.int .i64 m.h.surv) rfl
  have x5 := B0.cell 5 (.bool m.h.flip) rfl
  have x6 := B0.cell 6 (.int .i64 m.h.hash) rfl
  have x7 := B0.cell 7 (v3) rfl
  have x8 := B0.cell 8 (vp) rfl
  have x9 := B0.cell 9 (.int .i64 m.pc) rfl
  have x10 := B0.cell 10 (vo) rfl
  have x11 := B0.cell 11 (.int .i64 m.st) rfl
  have SP := SV _ _ (hv0.later hb0)
  clear SV hv0
  go_enter Tryz.func24, Tryz.ntmps24
  go_wp2_with fail
  refine SP.mono ?_
  clear SP x0 x1 x2 x3 x4 x5 x6 x7 x8 x9 x10 x11
  rintro e w1 ⟨rfl, hb1⟩
  have bw1 := bel_after hb0 hb1
  have B1 := B0.later hb1
  cases hr : (okM m.h m.prog m.pc m.out m.st && partsB m.h)
  · have R := ResOut.no (B := w.heap.size) (c := 0) (w' := w1.alloc (.cells #[] 2)) (ao := some ⟨w1.heap.size, 0, none⟩) (m := m) hr
    clear hr B0 B1
    go_wp2
    go_ret2
    exact ⟨R, bw1.alloc bw1.size _⟩
  have R := fun W u => ResOut.yes (B := w.heap.size) (w' := W) (u := u) (m := m) hr
  clear hr
  go_wp2_with fail
  refine Disk.z_plain 99 (fun W' => Bk W' w.heap.size #[v1, v2, .int .i64 m.h.old, .int .i64 m.h.eden, .int .i64 m.h.surv, .bool m.h.flip, .int .i64 m.h.hash, v3, vp, .int .i64 m.pc, vo, .int .i64 m.st] 30) (by kernel_rfl) B1.drew fun hz => ?_
  refine Disk.z_take 1 9 (v := .pointer (some ⟨w.heap.size, 10, none⟩)) rfl rfl (by kernel_rfl) (by kernel_rfl) (by kernel_rfl) (by kernel_rfl) (by rfl) hz (fun W' hSw => (by
    have z10 := hSw.cell 10 (vo) rfl
    have z11 := hSw.cell 11 (.int .i64 m.st) rfl
    go_simp; first | done | with_reducible rfl)) ?_
  simp only [List.setIfInBounds_toArray, List.set_cons_zero, List.set_cons_succ]
  refine Disk.z_take 2 10 (v := vo) rfl rfl (by kernel_rfl) (by kernel_rfl) (by kernel_rfl) (by kernel_rfl) (by rfl) hz (fun W' hSw => (by
    have z10 := hSw.cell 10 (vo) rfl
    have z11 := hSw.cell 11 (.int .i64 m.st) rfl
    go_simp; first | done | with_reducible rfl)) ?_
  simp only [List.setIfInBounds_toArray, List.set_cons_zero, List.set_cons_succ]
  refine Disk.z_take 4 12 (v := .pointer (some ⟨w.heap.size, 11, none⟩)) rfl rfl (by kernel_rfl) (by kernel_rfl) (by kernel_rfl) (by kernel_rfl) (by rfl) hz (fun W' hSw => (by
    have z10 := hSw.cell 10 (vo) rfl
    have z11 := hSw.cell 11 (.int .i64 m.st) rfl
    go_simp; first | done | with_reducible rfl)) ?_
  simp only [List.setIfInBounds_toArray, List.set_cons_zero, List.set_cons_succ]
  refine Disk.z_take 5 13 (v := .int .i64 m.st) rfl rfl (by kernel_rfl) (by kernel_rfl) (by kernel_rfl) (by kernel_rfl) (by rfl) hz (fun W' hSw => (by
    have z10 := hSw.cell 10 (vo) rfl
    have z11 := hSw.cell 11 (.int .i64 m.st) rfl
    go_simp; first | done | with_reducible rfl)) ?_
  simp only [List.setIfInBounds_toArray, List.set_cons_zero, List.set_cons_succ]
  have hz1 : Bk (w1.drew.alloc (.cells #[] 2)) w.heap.size #[v1, v2, .int .i64 m.h.old, .int .i64 m.h.eden, .int .i64 m.h.surv, .bool m.h.flip, .int .i64 m.h.hash, v3, vp, .int .i64 m.pc, vo, .int .i64 m.st] 30 := hz.alloc _
  have RE := empty_ri w1.drew
  refine Disk.z_run 0 8 (w' := w1.drew.alloc (.cells #[] 2)) (v := .slice (some ⟨w1.drew.heap.size, 0, none⟩) 0 0) rfl rfl (by kernel_rfl) (by rfl) (by go_simp; first | done | with_reducible rfl) (.inr hz1) ?_
  simp only [List.setIfInBounds_toArray, List.set_cons_zero, List.set_cons_succ]
  have al := bel_one w1.drew (.cells #[] 2)
  have bd : Below w.heap.size w w1.drew := bw1.drew
  have bw2 := bel_after bd al
  obtain ⟨u, w3, run, hi, hos, hg, hrow⟩ := run_appK (w1.drew.alloc (.cells #[] 2)) 26 w1.drew.heap.size RE vo m.out (io.later bw2) (by omega)
  have le1 : w.heap.size ≤ w1.drew.heap.size := bd.size
  have lt1 : w.heap.size < w1.drew.heap.size := B1.drew.lt
  have sz2 : (w1.drew.alloc (.cells #[] 2)).heap.size = w1.drew.heap.size + 1 := by simp
  have hz3 : Bk w3 w.heap.size #[v1, v2, .int .i64 m.h.old, .int .i64 m.h.eden, .int .i64 m.h.surv, .bool m.h.flip, .int .i64 m.h.hash, v3, vp, .int .i64 m.pc, vo, .int .i64 m.st] 30 := hz1.off hg (by intro e; injection e with e; omega)
  have bw3 : Below w.heap.size w w3 := Below.grown bw2 hg (by omega) (fun q hq => by cases hq; exact le1)
  have R2 := R w3 u hi hos (fun b hb => by have := hrow b hb; omega)
  clear hz1 RE R hi hos hg hrow sz2 le1 lt1
  refine Disk.z_run 3 11 (w' := w3) (v := u) rfl rfl (by kernel_rfl) (by rfl) (exec_appK _ _ rfl _ _ rfl rfl run) (.inr hz3) ?_
  simp only [List.setIfInBounds_toArray, List.set_cons_zero, List.set_cons_succ]
  refine Disk.z_take 6 2 (v := u) rfl rfl (by kernel_rfl) (by kernel_rfl) (by kernel_rfl) (by kernel_rfl) (by rfl) hz3 (fun W' hSw => (by
    clear hSw
    go_simp; first | done | with_reducible rfl)) ?_
  simp only [List.setIfInBounds_toArray, List.set_cons_zero, List.set_cons_succ]
  refine Disk.z_take 7 3 (v := .int .i64 m.st) rfl rfl (by kernel_rfl) (by kernel_rfl) (by kernel_rfl) (by kernel_rfl) (by rfl) hz3 (fun W' hSw => (by
    clear hSw
    go_simp; first | done | with_reducible rfl)) ?_
  simp only [List.setIfInBounds_toArray, List.set_cons_zero, List.set_cons_succ]
  refine Disk.z_done (by kernel_rfl) ?_ _
  clear hz hz3 B0 B1 run
  go_wp2
  go_ret2
  exact ⟨R2, bw3⟩

end Go.Proofs.YtgacacbncefeaaaGreat
