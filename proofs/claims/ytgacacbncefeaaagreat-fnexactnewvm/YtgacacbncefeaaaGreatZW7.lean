import Derived.Test.YtgacacbncefeaaaGreatZW4
import Derived.Test.YtgacacbncefeaaaGreatZW6
import Derived.Test.YtgacacbncefeaaaGreatZMApp
/- l13Program and VmOk of the model. -/
namespace Go.Proofs.YtgacacbncefeaaaGreat
open Go.RowKit

set_option maxHeartbeats 800000 in
theorem specProgB_any (u : Value) (ws : List Cd) (w : World) (hu : CR w u ws) (h2 : ws.length ≤ 1000000000) :
    Calls Tryz.prog 39 #[u] w fun e w' => e = .returned (.bool (progB ws)) ∧ Below w.heap.size w w' := by
  obtain ⟨ao, cap, rfl, _, hc⟩ := hu
  by_cases hl : ws.length ≤ 100
  case neg =>
    have OB : Hid (progB ws = false) := (by unfold progB; rw [decide_eq_false hl]; rfl : progB ws = false)
    have dl : decide ((ws.length : Int) > 100) = true := decide_eq_true (by omega)
    clear hc
    go_enter Tryz.func39, Tryz.ntmps39
    go_wp2
    go_ret
    exact ⟨wret_bool OB.out.symm, Below.refl _ _⟩
  have OB : Hid (progB ws = ws.all fun p => cokB p.1 p.2) := (by unfold progB; rw [decide_eq_true hl]; rfl : progB ws = ws.all fun p => cokB p.1 p.2)
  have dl : decide ((ws.length : Int) > 100) = false := decide_eq_false (by omega)
  go_enter Tryz.func39, Tryz.ntmps39
  go_wp2
  go_loopw [3] (fun kv wr => ∃ k : Nat, k ≤ ws.length ∧ kv = .int .i64 k ∧ Hid (∀ j, j < k → cokB (ws.getD j cd0).1 (ws.getD j cd0).2 = true) ∧ Below w.heap.size w wr) (fun kv _ => ws.length - (intOf kv).toNat)
  case atStart => exact ⟨0, Nat.zero_le _, rfl, fun j hj => absurd hj (Nat.not_lt_zero j), Below.refl _ _⟩
  case round =>
    obtain ⟨k, hk, rfl, hd, hbw⟩ := hrel
    by_cases hlt : k < ws.length
    · obtain ⟨b, o, rfl, ck, cl⟩ := hc k hlt
      have ck' := cell_later hbw ck
      have cl' := cell_later hbw cl
      have NX : Hid (cokB (ws.getD k cd0).1 (ws.getD k cd0).2 = true → ∀ j, j < k + 1 → cokB (ws.getD j cd0).1 (ws.getD j cd0).2 = true) := fun e => all_upto hd.out e
      have BAD : Hid (cokB (ws.getD k cd0).1 (ws.getD k cd0).2 = false → (ws.all fun p => cokB p.1 p.2) = false) := fun e => by
        rw [Bool.eq_false_iff]
        intro q
        have := List.all_eq_true.1 q (ws.getD k cd0) (by simp [hlt])
        rw [this] at e
        cases e
      clear hc ck cl hd
      generalize ws.getD k cd0 = s at *
      obtain ⟨x, y⟩ := s
      have P := fun W => specCodeOk_any x y W
      unfold codeV at P
      cases hx : cokB x y
      · rw [hx] at P
        have N : Hid ((ws.all fun p => cokB p.1 p.2) = false) := BAD.out hx
        clear NX BAD hx
        go_wp2_with fail
        refine (P _).mono ?_
        rintro e w1 ⟨rfl, hb1⟩
        have hbw1 := bel_after hbw hb1
        go_wp2
        go_ret
        exact ⟨wret_bool (by rw [OB.out, N.out]), hbw1⟩
      · rw [hx] at P
        have N : Hid (∀ j, j < k + 1 → cokB (ws.getD j cd0).1 (ws.getD j cd0).2 = true) := NX.out hx
        clear NX BAD hx
        go_wp2_with fail
        refine (P _).mono ?_
        rintro e w1 ⟨rfl, hb1⟩
        have hbw1 := bel_after hbw hb1
        go_wp2
        go_roundw
        case rel => exact ⟨k + 1, by omega, by go_num, N, hbw1⟩
        case measure => simp [intOf]; omega
    · obtain rfl : k = ws.length := by omega
      have G : Hid ((ws.all fun p => cokB p.1 p.2) = true) := (by
        rw [List.all_eq_true]
        intro p hp
        obtain ⟨i, hi, e⟩ := List.getElem_of_mem hp
        have q := hd.out i hi
        rw [show ws.getD i cd0 = p from by simp [hi, e]] at q
        exact q : (ws.all fun p => cokB p.1 p.2) = true)
      clear hd hc
      go_wp2
      go_ret
      exact ⟨wret_bool (by rw [OB.out, G.out]), hbw⟩

/-- The parts, as the model reads them. -/
theorem parts_of {h : Hp} (hk : okC h = true) (hr : h.roots.length = 2) : ∀ k, k < 2 → (kindW (h.roots.getD k 0) = 2 ∧ (h.roots.getD k 0) % 2 = 1 ∧ refB h (h.roots.getD k 0) = true ∧ ∃ a : Nat, h.roots.getD k 0 = 2 * (a : Int) + 1 ∧ a ∈ obC h ∧ a + 4 ≤ 3200 ∧ nx h.words a ≤ 3200 ∧ (0 ≤ gw h.words a ∧ gw h.words a ≤ 60)) ∨ (kindW (h.roots.getD k 0) = 1 ∧ (h.roots.getD k 0) % 2 = 0 ∧ refB h (h.roots.getD k 0) = false) := by
  intro k hk2
  have RG := c_right hk
  have hm : h.roots.getD k 0 ∈ h.roots := by
    have : k < h.roots.length := by omega
    simp [this]
  have hf := RG.2.2.2.2.2.2.1 _ hm
  rcases el_cases h (.slice none 0 0) (h.roots.getD k 0) with ⟨_, n, q⟩ | ⟨_, _, n, k1⟩ | ⟨_, r, a, ha, ea, k2, _⟩
  · exfalso
    have k1 := q hk
    rw [hk, Bool.and_true] at n
    unfold fitB at hf
    unfold refB at n
    rw [n, decide_eq_false k1] at hf
    cases hf
  · refine .inr ⟨k1, ?_, n⟩
    unfold kindW at k1
    split at k1
    · split at k1 <;> omega
    · omega
  · have od : h.roots.getD k 0 % 2 = 1 := by
      unfold kindW at k2
      split at k2
      · assumption
      · split at k2 <;> omega
    obtain ⟨q1, q2, q3⟩ := RG.1.obj ha
    exact .inl ⟨k2, od, r, a, by omega, ha, q1, q2, size_of q3⟩

end Go.Proofs.YtgacacbncefeaaaGreat

/- VmOk of the program; machines held against each other; the law of VmOk. -/
namespace Go.Proofs.YtgacacbncefeaaaGreat
open Go.RowKit

theorem VR.rows {w : World} {v : Value} {m : Mp} (h : VR w v m) : ∃ v1 v2 v3 vp vo, v = .agg #[v1, v2, .int .i64 m.h.old, .int .i64 m.h.eden, .int .i64 m.h.surv, .bool m.h.flip, .int .i64 m.h.hash, v3, vp, .int .i64 m.pc, vo, .int .i64 m.st] ∧ (IR w v1 m.h.words ∧ IR w v2 m.h.roots ∧ IR w v3 m.h.kept ∧ CR w vp m.prog ∧ IR w vo m.out) := h

set_option maxRecDepth 100000 in
set_option maxHeartbeats 1600000 in
theorem implVmOk_any (v : Value) (m : Mp) (w : World) (hv : VR w v m) (hs : smM m 1000000000) :
    Calls Tryz.prog 12 #[v] w fun e w' => e = .returned (.bool (okM m.h m.prog m.pc m.out m.st && partsB m.h)) ∧ Below w.heap.size w w' := by
  obtain ⟨r, hr0⟩ : ∃ r, r = (okM m.h m.prog m.pc m.out m.st && partsB m.h) := ⟨_, rfl⟩
  rw [← hr0]
  replace hr0 : Hid (r = (okM m.h m.prog m.pc m.out m.st && partsB m.h)) := hr0
  obtain ⟨v1, v2, v3, vp, vo, rfl, i1, i2, i3, ip, io⟩ := hv
  obtain ⟨s1, s2, s3, s4, s5⟩ := hs
  have hb0 := bel_one w (.cells #[v1, v2, .int .i64 m.h.old, .int .i64 m.h.eden, .int .i64 m.h.surv, .bool m.h.flip, .int .i64 m.h.hash, v3, vp, .int .i64 m.pc, vo, .int .i64 m.st] 30)
  have B0 : Bk (w.alloc (.cells #[v1, v2, .int .i64 m.h.old, .int .i64 m.h.eden, .int .i64 m.h.surv, .bool m.h.flip, .int .i64 m.h.hash, v3, vp, .int .i64 m.pc, vo, .int .i64 m.st] 30)) w.heap.size #[v1, v2, .int .i64 m.h.old, .int .i64 m.h.eden, .int .i64 m.h.surv, .bool m.h.flip, .int .i64 m.h.hash, v3, vp, .int .i64 m.pc, vo, .int .i64 m.st] 30 := Bk.new w _ _
  have x0 := B0.cell 0 (v1) rfl
  have x1 := B0.cell 1 (v2) rfl
  have x2 := B0.cell 2 (.int .i64 m.h.old) rfl
  have x3 := B0.cell 3 (.int .i64 m.h.eden) rfl
  have x4 := B0.cell 4 (.int .i64 m.h.surv) rfl
  have x5 := B0.cell 5 (.bool m.h.flip) rfl
  have x6 := B0.cell 6 (.int .i64 m.h.hash) rfl
  have x7 := B0.cell 7 (v3) rfl
  have x8 := B0.cell 8 (vp) rfl
  have x9 := B0.cell 9 (.int .i64 m.pc) rfl
  have x10 := B0.cell 10 (vo) rfl
  have x11 := B0.cell 11 (.int .i64 m.st) rfl
  have MO := machineOf_any v1 v2 v3 vp vo m.h m.prog m.pc m.out m.st _ (i1.later hb0) (i2.later hb0) (i3.later hb0) (ip.later hb0) (io.later hb0) s1 s2 s3 s4 s5
  go_enter Tryz.func12, Tryz.ntmps12
  go_wp2_with fail
  refine MO.mono ?_
  clear MO x0 x1 x2 x3 x4 x5 x6 x7 x8 x9 x10 x11 B0
  rintro e w1 ⟨mk, hb1⟩
  have bw1 := bel_after hb0 hb1
  rcases mk with ⟨ok, g1, g2, g3, P, O, oa, oc, rfl, -, -⟩ | ⟨ok, rfl⟩
  · have R : Hid (r = partsB m.h) := (by rw [hr0.out, ok, Bool.true_and] : r = partsB m.h)
    clear hr0
    generalize partsB m.h = pb at *
    go_wp2
    go_ret
    exact ⟨wret_bool R.out.symm, bw1.alloc bw1.size _⟩
  · have R : Hid (r = false) := (by rw [hr0.out, ok, Bool.false_and] : r = false)
    clear hr0
    go_wp2
    go_ret
    exact ⟨wret_bool R.out.symm, bw1.alloc bw1.size _⟩

set_option maxRecDepth 100000 in
set_option maxHeartbeats 1600000 in
theorem eqVm_any (v u : Value) (m : Mp) (w : World) (hv : VR w v m) (hu : VR w u m) (hs : smM m 1000000000) :
    Calls Tryz.prog 16 #[v, u] w fun e w' => e = .returned (.bool true) ∧ Below w.heap.size w w' := by
  obtain ⟨v1, v2, v3, vp, vo, rfl, i1, i2, i3, ip, io⟩ := hv
  obtain ⟨u1, u2, u3, up, uo, rfl, j1, j2, j3, jp, jo⟩ := hu
  obtain ⟨s1, s2, s3, s4, s5⟩ := hs
  have hb0 : Below w.heap.size w ((w.alloc (.cells #[v1, v2, .int .i64 m.h.old, .int .i64 m.h.eden, .int .i64 m.h.surv, .bool m.h.flip, .int .i64 m.h.hash, v3, vp, .int .i64 m.pc, vo, .int .i64 m.st] 30)).alloc (.cells #[u1, u2, .int .i64 m.h.old, .int .i64 m.h.eden, .int .i64 m.h.surv, .bool m.h.flip, .int .i64 m.h.hash, u3, up, .int .i64 m.pc, uo, .int .i64 m.st] 30)) := bel_after (bel_one _ _) (bel_one _ _)
  have B0 : Bk ((w.alloc (.cells #[v1, v2, .int .i64 m.h.old, .int .i64 m.h.eden, .int .i64 m.h.surv, .bool m.h.flip, .int .i64 m.h.hash, v3, vp, .int .i64 m.pc, vo, .int .i64 m.st] 30)).alloc (.cells #[u1, u2, .int .i64 m.h.old, .int .i64 m.h.eden, .int .i64 m.h.surv, .bool m.h.flip, .int .i64 m.h.hash, u3, up, .int .i64 m.pc, uo, .int .i64 m.st] 30)) w.heap.size #[v1, v2, .int .i64 m.h.old, .int .i64 m.h.eden, .int .i64 m.h.surv, .bool m.h.flip, .int .i64 m.h.hash, v3, vp, .int .i64 m.pc, vo, .int .i64 m.st] 30 := (Bk.new w #[v1, v2, .int .i64 m.h.old, .int .i64 m.h.eden, .int .i64 m.h.surv, .bool m.h.flip, .int .i64 m.h.hash, v3, vp, .int .i64 m.pc, vo, .int .i64 m.st] 30).alloc _
  have C0 : Bk ((w.alloc (.cells #[v1, v2, .int .i64 m.h.old, .int .i64 m.h.eden, .int .i64 m.h.surv, .bool m.h.flip, .int .i64 m.h.hash, v3, vp, .int .i64 m.pc, vo, .int .i64 m.st] 30)).alloc (.cells #[u1, u2, .int .i64 m.h.old, .int .i64 m.h.eden, .int .i64 m.h.surv, .bool m.h.flip, .int .i64 m.h.hash, u3, up, .int .i64 m.pc, uo, .int .i64 m.st] 30)) (w.heap.size + 1) #[u1, u2, .int .i64 m.h.old, .int .i64 m.h.eden, .int .i64 m.h.surv, .bool m.h.flip, .int .i64 m.h.hash, u3, up, .int .i64 m.pc, uo, .int .i64 m.st] 30 := by
    have q := Bk.new (w.alloc (.cells #[v1, v2, .int .i64 m.h.old, .int .i64 m.h.eden, .int .i64 m.h.surv, .bool m.h.flip, .int .i64 m.h.hash, v3, vp, .int .i64 m.pc, vo, .int .i64 m.st] 30)) #[u1, u2, .int .i64 m.h.old, .int .i64 m.h.eden, .int .i64 m.h.surv, .bool m.h.flip, .int .i64 m.h.hash, u3, up, .int .i64 m.pc, uo, .int .i64 m.st] 30
    rw [World.size_alloc] at q
    exact q
  have EH := eqHeap_any (.agg #[v1, v2, .int .i64 m.h.old, .int .i64 m.h.eden, .int .i64 m.h.surv, .bool m.h.flip, .int .i64 m.h.hash, v3]) (.agg #[u1, u2, .int .i64 m.h.old, .int .i64 m.h.eden, .int .i64 m.h.surv, .bool m.h.flip, .int .i64 m.h.hash, u3]) m.h _ ⟨_, _, _, rfl, i1.later hb0, i2.later hb0, i3.later hb0⟩ ⟨_, _, _, rfl, j1.later hb0, j2.later hb0, j3.later hb0⟩ (by omega) (by omega) (by omega)
  have x0 := B0.cell 0 (v1) rfl
  have x1 := B0.cell 1 (v2) rfl
  have x2 := B0.cell 2 (.int .i64 m.h.old) rfl
  have x3 := B0.cell 3 (.int .i64 m.h.eden) rfl
  have x4 := B0.cell 4 (.int .i64 m.h.surv) rfl
  have x5 := B0.cell 5 (.bool m.h.flip) rfl
  have x6 := B0.cell 6 (.int .i64 m.h.hash) rfl
  have x7 := B0.cell 7 (v3) rfl
  have x8 := B0.cell 8 (vp) rfl
  have x9 := B0.cell 9 (.int .i64 m.pc) rfl
  have x10 := B0.cell 10 (vo) rfl
  have x11 := B0.cell 11 (.int .i64 m.st) rfl
  have y0 := C0.cell 0 (u1) rfl
  have y1 := C0.cell 1 (u2) rfl
  have y2 := C0.cell 2 (.int .i64 m.h.old) rfl
  have y3 := C0.cell 3 (.int .i64 m.h.eden) rfl
  have y4 := C0.cell 4 (.int .i64 m.h.surv) rfl
  have y5 := C0.cell 5 (.bool m.h.flip) rfl
  have y6 := C0.cell 6 (.int .i64 m.h.hash) rfl
  have y7 := C0.cell 7 (u3) rfl
  have y8 := C0.cell 8 (up) rfl
  have y9 := C0.cell 9 (.int .i64 m.pc) rfl
  have y10 := C0.cell 10 (uo) rfl
  have y11 := C0.cell 11 (.int .i64 m.st) rfl
  go_enter Tryz.func16, Tryz.ntmps16
  go_wp2_with fail
  refine EH.mono ?_
  clear EH x0 y0 x1 y1 x2 y2 x3 y3 x4 y4 x5 y5 x6 y6 x7 y7 x8 y8 x9 y9 x10 y10 x11 y11
  rintro e w1 ⟨rfl, hb1⟩
  have bw1 := bel_after hb0 hb1
  have B1 := B0.later hb1
  have C1 := C0.later hb1
  have x8 := B1.cell 8 vp rfl
  have y8 := C1.cell 8 up rfl
  have EC := eqCodes_any vp up m.prog m.prog w1 (ip.later bw1) (jp.later bw1) (by omega) (by omega)
  rw [decide_eq_true rfl] at EC
  clear B0 C0
  go_wp2_with fail
  refine EC.mono ?_
  clear EC x8 y8
  rintro e w2 ⟨rfl, hb2⟩
  have bw2 := bel_after bw1 hb2
  have B2 := B1.later hb2
  have C2 := C1.later hb2
  have x9 := B2.cell 9 (.int .i64 m.pc) rfl
  have y9 := C2.cell 9 (.int .i64 m.pc) rfl
  have x10 := B2.cell 10 vo rfl
  have y10 := C2.cell 10 uo rfl
  have EI := eqInt64S_any vo uo m.out m.out w2 (io.later bw2) (jo.later bw2) (by omega) (by omega)
  rw [decide_eq_true rfl] at EI
  have np : (m.pc != m.pc) = false := by simp
  have ns : (m.st != m.st) = false := by simp
  clear B1 C1
  go_wp2_with fail
  refine EI.mono ?_
  clear EI x9 y9 x10 y10
  rintro e w3 ⟨rfl, hb3⟩
  have bw3 := bel_after bw2 hb3
  have x11 := (B2.later hb3).cell 11 (.int .i64 m.st) rfl
  have y11 := (C2.later hb3).cell 11 (.int .i64 m.st) rfl
  go_wp2
  go_ret
  exact ⟨rfl, bw3⟩

end Go.Proofs.YtgacacbncefeaaaGreat

/- Result of the program and of the model. -/
namespace Go.Proofs.YtgacacbncefeaaaGreat
open Go.RowKit

theorem exec_appK {o : Oper} {a : Act} {w w' : World} {u : Value} {t : TypeId} (s x : Operand) (ho : o.op = .call { callee := .builtin .append, args := #[s, x], argTypes := #[t, t] }) (v y : Value) (hs : a.eval s = v) (hx : a.eval x = y)
    (hr : (Builtin.append_ #[t, t] o.type #[v, y]).run Tryz.prog w = .ok u w') : (execOp a.eval o).run Tryz.prog w = .ok (.value u) w' := by
  unfold execOp
  simp only [ho, resolve, invoke, builtin, Sem.run_bind, Sem.run_pure, Result.andThen_ok, List.map_toArray, List.map_cons, List.map_nil, hs, hx, hr]
/-- append of whatever numbers to an empty row of the call's own, as a run. -/
theorem run_appK (w : World) (ty : TypeId) (g : Nat) (hR : RI w g [] 0) (v : Value) (l : List Int) (hI : IR w v l) (hl : l.length ≤ 1000000000000) :
    ∃ u w', (Builtin.append_ #[26, 26] ty #[.slice (some ⟨g, 0, none⟩) 0 0, v]).run Tryz.prog w = .ok u w' ∧ IR w' u l ∧ Disk.OS w' 2 1 u l.length ∧ w.grownBy w' (some g) ∧ (∀ b, Disk.rowOf u l.length = some b → b = g ∨ b = w.heap.size) := by
  obtain ⟨ao, cp, rfl, _, hc⟩ := hI
  by_cases h0 : l.length = 0
  · obtain rfl : l = [] := List.eq_nil_of_length_eq_zero h0
    exact ⟨_, w, run_append_zero ty g 0 0 cp ao (Nat.le_refl _) w, ⟨_, _, rfl, Nat.le_refl _, fun i hi => absurd hi (Nat.not_lt_zero i)⟩, ⟨_, _, rfl, .inl rfl⟩, ⟨rfl, rfl, rfl, Nat.le_refl _, fun _ _ _ => rfl⟩, fun b hb => by unfold Disk.rowOf at hb; simp at hb⟩
  · obtain ⟨i, hi, hzz⟩ := Option.map_eq_some_iff.1 Tryz.infoI
    simp only [Prod.mk.injEq] at hzz
    obtain ⟨hz, hsz, hby⟩ := hzz
    obtain ⟨b, q, rfl, _⟩ := hc 0 (by omega)
    have ow := hR.owns (B := 0) (Nat.zero_le _) (by unfold maxLen; omega)
    simp only [List.length_nil] at ow
    obtain ⟨v', w', run, h1, h2, h3, h4⟩ := run_append_own_at (P := Tryz.prog) w 0 26 ty 2 i _ 1 8 Tryz.underlying26 hi hz hsz hby rfl (by omega) _ 0 (icells []) ow ⟨b, q, none⟩ l.length cp (icells l) (by simp [icells]) (fun j u hj => by
      have hj' : j < l.length := by
        rcases Nat.lt_or_ge j l.length with k | k
        · exact k
        · rw [List.getElem?_eq_none (by rw [icells_length]; exact k)] at hj; cases hj
      obtain ⟨b', q', e2, hcell⟩ := hc j hj'
      simp only [Option.some.injEq, Addr.mk.injEq, and_true] at e2
      obtain ⟨rfl, rfl⟩ := e2
      have hu : u = .int .i64 (l.getD j 0) := by
        simp [icells, hj'] at hj
        rw [← hj]
        simp [hj']
      rw [hu, ← hcell]
      unfold Addr.add
      split
      · subst j; rfl
      · simp) (fun u hu => by
      obtain ⟨z, _, rfl⟩ := List.mem_map.1 hu
      rfl) (by unfold maxLen; omega) (by omega) (Nat.zero_le _)
    have e3 : icells [] ++ icells l = icells l := rfl
    rw [e3, Nat.zero_add] at h1
    refine ⟨v', w', run, IR_of_owns h1, OS_of_owns h1, h2, fun b hb => ?_⟩
    have hb2 : v'.ownBlock = some b := by
      unfold Disk.rowOf at hb
      rw [if_neg h0] at hb
      exact hb
    rcases h4 with e | e
    · left
      rw [hb2] at e
      simpa [Value.ownBlock] using e
    · right
      rw [hb2] at e
      simpa using e

noncomputable def resL (m : Mp) : List Int := if (okM m.h m.prog m.pc m.out m.st && partsB m.h) = true then m.out else []
noncomputable def resS (m : Mp) : Int := if (okM m.h m.prog m.pc m.out m.st && partsB m.h) = true then m.st else -1
/-- What Result answers. -/
def ResOut (m : Mp) (B : Nat) (e : Ending) (w' : World) : Prop := ∃ u, e = .returned (.tuple #[u, .int .i64 (resS m)]) ∧ IR w' u (resL m) ∧ Disk.OS w' 2 1 u (resL m).length ∧ ∀ b, Disk.rowOf u (resL m).length = some b → B ≤ b
theorem ResOut.yes {m : Mp} {B : Nat} {w' : World} {u : Value} (r : (okM m.h m.prog m.pc m.out m.st && partsB m.h) = true) (h1 : IR w' u m.out) (h2 : Disk.OS w' 2 1 u m.out.length) (h3 : ∀ b, Disk.rowOf u m.out.length = some b → B ≤ b) : ResOut m B (.returned (.tuple #[u, .int .i64 m.st])) w' := by
  have e1 : resL m = m.out := by unfold resL; rw [if_pos r]
  have e2 : resS m = m.st := by unfold resS; rw [if_pos r]
  unfold ResOut
  rw [e1, e2]
  exact ⟨u, rfl, h1, h2, h3⟩
theorem ResOut.no {m : Mp} {B c : Nat} {w' : World} {ao : Option Addr} (r : (okM m.h m.prog m.pc m.out m.st && partsB m.h) = false) : ResOut m B (.returned (.tuple #[.slice ao 0 c, .int .i64 (-1)])) w' := by
  have e1 : resL m = [] := by unfold resL; rw [if_neg (by rw [r]; simp)]
  have e2 : resS m = -1 := by unfold resS; rw [if_neg (by rw [r]; simp)]
  unfold ResOut
  rw [e1, e2]
  exact ⟨_, rfl, ⟨_, _, rfl, Nat.zero_le _, fun i hi => absurd hi (Nat.not_lt_zero i)⟩, ⟨_, _, rfl, .inl rfl⟩, fun b hb => by unfold Disk.rowOf at hb; simp at hb⟩

set_option maxRecDepth 100000 in
set_option maxHeartbeats 1600000 in
theorem implResult_any (v : Value) (m : Mp) (w : World) (hv : VR w v m) (hs : smM m 1000000000) :
    Calls Tryz.prog 25 #[v] w fun e w' => ResOut m w.heap.size e w' ∧ Below w.heap.size w w' := by
  obtain ⟨v1, v2, v3, vp, vo, rfl, i1, i2, i3, ip, io⟩ := hv
  obtain ⟨s1, s2, s3, s4, s5⟩ := hs
  have hb0 := bel_one w (.cells #[v1, v2, .int .i64 m.h.old, .int .i64 m.h.eden, .int .i64 m.h.surv, .bool m.h.flip, .int .i64 m.h.hash, v3, vp, .int .i64 m.pc, vo, .int .i64 m.st] 30)
  have B0 : Bk (w.alloc (.cells #[v1, v2, .int .i64 m.h.old, .int .i64 m.h.eden, .int .i64 m.h.surv, .bool m.h.flip, .int .i64 m.h.hash, v3, vp, .int .i64 m.pc, vo, .int .i64 m.st] 30)) w.heap.size #[v1, v2, .int .i64 m.h.old, .int .i64 m.h.eden, .int .i64 m.h.surv, .bool m.h.flip, .int .i64 m.h.hash, v3, vp, .int .i64 m.pc, vo, .int .i64 m.st] 30 := Bk.new w _ _
  have x0 := B0.cell 0 (v1) rfl
  have x1 := B0.cell 1 (v2) rfl
  have x2 := B0.cell 2 (.int .i64 m.h.old) rfl
  have x3 := B0.cell 3 (.int .i64 m.h.eden) rfl
  have x4 := B0.cell 4 (.int .i64 m.h.surv) rfl
  have x5 := B0.cell 5 (.bool m.h.flip) rfl
  have x6 := B0.cell 6 (.int .i64 m.h.hash) rfl
  have x7 := B0.cell 7 (v3) rfl
  have x8 := B0.cell 8 (vp) rfl
  have x9 := B0.cell 9 (.int .i64 m.pc) rfl
  have x10 := B0.cell 10 (vo) rfl
  have x11 := B0.cell 11 (.int .i64 m.st) rfl
  have MO := machineOf_any v1 v2 v3 vp vo m.h m.prog m.pc m.out m.st _ (i1.later hb0) (i2.later hb0) (i3.later hb0) (ip.later hb0) (io.later hb0) s1 s2 s3 s4 s5
  go_enter Tryz.func25, Tryz.ntmps25
  go_wp2_with fail
  refine MO.mono ?_
  clear MO x0 x1 x2 x3 x4 x5 x6 x7 x8 x9 x10 x11 B0
  rintro e w1 ⟨mk, hb1⟩
  have bw1 := bel_after hb0 hb1
  have le0 := hb0.size
  rcases mk with ⟨ok, g1, g2, g3, P, O, oa, oc, rfl, RO, lO⟩ | ⟨ok, rfl⟩
  · cases hp : partsB m.h
    · have R := ResOut.no (B := w.heap.size) (c := 0) (w' := w1.alloc (.cells #[.slice (some ⟨g1, 0, none⟩) m.h.words.length m.h.words.length, .slice oa (obC m.h).length oc, .slice (some ⟨g2, 0, none⟩) m.h.roots.length m.h.roots.length, .int .i64 m.h.old, .int .i64 m.h.eden, .int .i64 m.h.surv, .bool m.h.flip, .int .i64 m.h.hash, .slice (some ⟨g3, 0, none⟩) m.h.kept.length m.h.kept.length, .slice (some ⟨P, 0, none⟩) m.prog.length m.prog.length, .int .i64 m.pc, .slice (some ⟨O, 0, none⟩) m.out.length m.out.length, .int .i64 m.st] 74)) (ao := none) (m := m) (by rw [ok, hp]; rfl)
      go_wp2
      go_ret2
      exact ⟨R, bw1.alloc bw1.size _⟩
    have al := bel_one w1 (.cells #[.slice (some ⟨g1, 0, none⟩) m.h.words.length m.h.words.length, .slice oa (obC m.h).length oc, .slice (some ⟨g2, 0, none⟩) m.h.roots.length m.h.roots.length, .int .i64 m.h.old, .int .i64 m.h.eden, .int .i64 m.h.surv, .bool m.h.flip, .int .i64 m.h.hash, .slice (some ⟨g3, 0, none⟩) m.h.kept.length m.h.kept.length, .slice (some ⟨P, 0, none⟩) m.prog.length m.prog.length, .int .i64 m.pc, .slice (some ⟨O, 0, none⟩) m.out.length m.out.length, .int .i64 m.st] 74)
    have D2 : Bk (w1.alloc (.cells #[.slice (some ⟨g1, 0, none⟩) m.h.words.length m.h.words.length, .slice oa (obC m.h).length oc, .slice (some ⟨g2, 0, none⟩) m.h.roots.length m.h.roots.length, .int .i64 m.h.old, .int .i64 m.h.eden, .int .i64 m.h.surv, .bool m.h.flip, .int .i64 m.h.hash, .slice (some ⟨g3, 0, none⟩) m.h.kept.length m.h.kept.length, .slice (some ⟨P, 0, none⟩) m.prog.length m.prog.length, .int .i64 m.pc, .slice (some ⟨O, 0, none⟩) m.out.length m.out.length, .int .i64 m.st] 74)) w1.heap.size #[.slice (some ⟨g1, 0, none⟩) m.h.words.length m.h.words.length, .slice oa (obC m.h).length oc, .slice (some ⟨g2, 0, none⟩) m.h.roots.length m.h.roots.length, .int .i64 m.h.old, .int .i64 m.h.eden, .int .i64 m.h.surv, .bool m.h.flip, .int .i64 m.h.hash, .slice (some ⟨g3, 0, none⟩) m.h.kept.length m.h.kept.length, .slice (some ⟨P, 0, none⟩) m.prog.length m.prog.length, .int .i64 m.pc, .slice (some ⟨O, 0, none⟩) m.out.length m.out.length, .int .i64 m.st] 74 := Bk.new w1 _ _
    have RO2 := RO.later al
    have bw2 := bel_after bw1 al
    have R := ResOut.yes (B := w.heap.size) (w' := (w1.alloc (.cells #[.slice (some ⟨g1, 0, none⟩) m.h.words.length m.h.words.length, .slice oa (obC m.h).length oc, .slice (some ⟨g2, 0, none⟩) m.h.roots.length m.h.roots.length, .int .i64 m.h.old, .int .i64 m.h.eden, .int .i64 m.h.surv, .bool m.h.flip, .int .i64 m.h.hash, .slice (some ⟨g3, 0, none⟩) m.h.kept.length m.h.kept.length, .slice (some ⟨P, 0, none⟩) m.prog.length m.prog.length, .int .i64 m.pc, .slice (some ⟨O, 0, none⟩) m.out.length m.out.length, .int .i64 m.st] 74)).drew) (m := m) (by rw [ok, hp]; rfl) ((RO2.later (Below.refl _ _).drew).ir (Nat.le_refl _)) ((RO2.later (Below.refl _ _).drew).os (cap := m.out.length)) (fun b hb => by have := rowof hb; omega)
    go_wp2_with fail
    refine Disk.z_plain 99 (fun W' => Bk W' w1.heap.size #[.slice (some ⟨g1, 0, none⟩) m.h.words.length m.h.words.length, .slice oa (obC m.h).length oc, .slice (some ⟨g2, 0, none⟩) m.h.roots.length m.h.roots.length, .int .i64 m.h.old, .int .i64 m.h.eden, .int .i64 m.h.surv, .bool m.h.flip, .int .i64 m.h.hash, .slice (some ⟨g3, 0, none⟩) m.h.kept.length m.h.kept.length, .slice (some ⟨P, 0, none⟩) m.prog.length m.prog.length, .int .i64 m.pc, .slice (some ⟨O, 0, none⟩) m.out.length m.out.length, .int .i64 m.st] 74) (by kernel_rfl) D2.drew fun hz => ?_
    refine Disk.z_take 0 13 (v := .pointer (some ⟨w1.heap.size, 11, none⟩)) rfl rfl (by kernel_rfl) (by kernel_rfl) (by kernel_rfl) (by kernel_rfl) (by rfl) hz (fun W' hSw => (by
      have z11 := hSw.cell 11 (.slice (some ⟨O, 0, none⟩) m.out.length m.out.length) rfl
      have z12 := hSw.cell 12 (.int .i64 m.st) rfl
      go_simp; first | done | with_reducible rfl)) ?_
    simp only [List.setIfInBounds_toArray, List.set_cons_zero, List.set_cons_succ]
    refine Disk.z_take 1 14 (v := .slice (some ⟨O, 0, none⟩) m.out.length m.out.length) rfl rfl (by kernel_rfl) (by kernel_rfl) (by kernel_rfl) (by kernel_rfl) (by rfl) hz (fun W' hSw => (by
      have z11 := hSw.cell 11 (.slice (some ⟨O, 0, none⟩) m.out.length m.out.length) rfl
      have z12 := hSw.cell 12 (.int .i64 m.st) rfl
      go_simp; first | done | with_reducible rfl)) ?_
    simp only [List.setIfInBounds_toArray, List.set_cons_zero, List.set_cons_succ]
    refine Disk.z_take 2 15 (v := .pointer (some ⟨w1.heap.size, 12, none⟩)) rfl rfl (by kernel_rfl) (by kernel_rfl) (by kernel_rfl) (by kernel_rfl) (by rfl) hz (fun W' hSw => (by
      have z11 := hSw.cell 11 (.slice (some ⟨O, 0, none⟩) m.out.length m.out.length) rfl
      have z12 := hSw.cell 12 (.int .i64 m.st) rfl
      go_simp; first | done | with_reducible rfl)) ?_
    simp only [List.setIfInBounds_toArray, List.set_cons_zero, List.set_cons_succ]
    refine Disk.z_take 3 16 (v := .int .i64 m.st) rfl rfl (by kernel_rfl) (by kernel_rfl) (by kernel_rfl) (by kernel_rfl) (by rfl) hz (fun W' hSw => (by
      have z11 := hSw.cell 11 (.slice (some ⟨O, 0, none⟩) m.out.length m.out.length) rfl
      have z12 := hSw.cell 12 (.int .i64 m.st) rfl
      go_simp; first | done | with_reducible rfl)) ?_
    simp only [List.setIfInBounds_toArray, List.set_cons_zero, List.set_cons_succ]
    refine Disk.z_take 4 2 (v := .slice (some ⟨O, 0, none⟩) m.out.length m.out.length) rfl rfl (by kernel_rfl) (by kernel_rfl) (by kernel_rfl) (by kernel_rfl) (by rfl) hz (fun W' hSw => (by
      have z11 := hSw.cell 11 (.slice (some ⟨O, 0, none⟩) m.out.length m.out.length) rfl
      have z12 := hSw.cell 12 (.int .i64 m.st) rfl
      go_simp; first | done | with_reducible rfl)) ?_
    simp only [List.setIfInBounds_toArray, List.set_cons_zero, List.set_cons_succ]
    refine Disk.z_take 5 3 (v := .int .i64 m.st) rfl rfl (by kernel_rfl) (by kernel_rfl) (by kernel_rfl) (by kernel_rfl) (by rfl) hz (fun W' hSw => (by
      have z11 := hSw.cell 11 (.slice (some ⟨O, 0, none⟩) m.out.length m.out.length) rfl
      have z12 := hSw.cell 12 (.int .i64 m.st) rfl
      go_simp; first | done | with_reducible rfl)) ?_
    simp only [List.setIfInBounds_toArray, List.set_cons_zero, List.set_cons_succ]
    refine Disk.z_done (by kernel_rfl) ?_ _
    clear hz D2
    go_wp2
    go_ret2
    exact ⟨R, bw2.drew⟩
  · have R := ResOut.no (B := w.heap.size) (c := 0) (w' := w1.alloc (.cells #[.slice none 0 0, .slice none 0 0, .slice none 0 0, .int .i64 0, .int .i64 0, .int .i64 0, .bool false, .int .i64 0, .slice none 0 0, .slice none 0 0, .int .i64 0, .slice none 0 0, .int .i64 0] 74)) (ao := none) (m := m) (by rw [ok]; rfl)
    go_wp2
    go_ret2
    exact ⟨R, bw1.alloc bw1.size _⟩

set_option maxRecDepth 100000 in
set_option maxHeartbeats 1600000 in
theorem specResult_any (v : Value) (m : Mp) (w : World) (hv : VR w v m) (hs : smM m 1000000000)
    (SV : ∀ v w, VR w v m → Calls Tryz.prog 22 #[v] w fun e w' => e = .returned (.bool (okM m.h m.prog m.pc m.out m.st && partsB m.h)) ∧ Below w.heap.size w w') :
    Calls Tryz.prog 24 #[v] w fun e w' => ResOut m w.heap.size e w' ∧ Below w.heap.size w w' := by
  have hv0 := hv
  obtain ⟨v1, v2, v3, vp, vo, rfl, i1, i2, i3, ip, io⟩ := hv
  obtain ⟨s1, s2, s3, s4, s5⟩ := hs
  have hb0 := bel_one w (.cells #[v1, v2, .int .i64 m.h.old, .int .i64 m.h.eden, .int .i64 m.h.surv, .bool m.h.flip, .int .i64 m.h.hash, v3, vp, .int .i64 m.pc, vo, .int .i64 m.st] 30)
  have B0 : Bk (w.alloc (.cells #[v1, v2, .int .i64 m.h.old, .int .i64 m.h.eden, .int .i64 m.h.surv, .bool m.h.flip, .int .i64 m.h.hash, v3, vp, .int .i64 m.pc, vo, .int .i64 m.st] 30)) w.heap.size #[v1, v2, .int .i64 m.h.old, .int .i64 m.h.eden, .int .i64 m.h.surv, .bool m.h.flip, .int .i64 m.h.hash, v3, vp, .int .i64 m.pc, vo, .int .i64 m.st] 30 := Bk.new w _ _
  have x0 := B0.cell 0 (v1) rfl
  have x1 := B0.cell 1 (v2) rfl
  have x2 := B0.cell 2 (.int .i64 m.h.old) rfl
  have x3 := B0.cell 3 (.int .i64 m.h.eden) rfl
  have x4 := B0.cell 4 (.int .i64 m.h.surv) rfl
  have x5 := B0.cell 5 (.bool m.h.flip) rfl
  have x6 := B0.cell 6 (.int .i64 m.h.hash) rfl
  have x7 := B0.cell 7 (v3) rfl
  have x8 := B0.cell 8 (vp) rfl
  have x9 := B0.cell 9 (.int .i64 m.pc) rfl
  have x10 := B0.cell 10 (vo) rfl
  have x11 := B0.cell 11 (.int .i64 m.st) rfl
  have SP := SV _ _ (hv0.later hb0)
  clear SV hv0
  go_enter Tryz.func24, Tryz.ntmps24
  go_wp2_with fail
  refine SP.mono ?_
  clear SP x0 x1 x2 x3 x4 x5 x6 x7 x8 x9 x10 x11
  rintro e w1 ⟨rfl, hb1⟩
  have bw1 := bel_after hb0 hb1
  have B1 := B0.later hb1
  cases hr : (okM m.h m.prog m.pc m.out m.st && partsB m.h)
  · have R := ResOut.no (B := w.heap.size) (c := 0) (w' := w1.alloc (.cells #[] 2)) (ao := some ⟨w1.heap.size, 0, none⟩) (m := m) hr
    clear hr B0 B1
    go_wp2
    go_ret2
    exact ⟨R, bw1.alloc bw1.size _⟩
  have R := fun W u => ResOut.yes (B := w.heap.size) (w' := W) (u := u) (m := m) hr
  clear hr
  go_wp2_with fail
  refine Disk.z_plain 99 (fun W' => Bk W' w.heap.size #[v1, v2, .int .i64 m.h.old, .int .i64 m.h.eden, .int .i64 m.h.surv, .bool m.h.flip, .int .i64 m.h.hash, v3, vp, .int .i64 m.pc, vo, .int .i64 m.st] 30) (by kernel_rfl) B1.drew fun hz => ?_
  refine Disk.z_take 1 9 (v := .pointer (some ⟨w.heap.size, 10, none⟩)) rfl rfl (by kernel_rfl) (by kernel_rfl) (by kernel_rfl) (by kernel_rfl) (by rfl) hz (fun W' hSw => (by
    have z10 := hSw.cell 10 (vo) rfl
    have z11 := hSw.cell 11 (.int .i64 m.st) rfl
    go_simp; first | done | with_reducible rfl)) ?_
  simp only [List.setIfInBounds_toArray, List.set_cons_zero, List.set_cons_succ]
  refine Disk.z_take 2 10 (v := vo) rfl rfl (by kernel_rfl) (by kernel_rfl) (by kernel_rfl) (by kernel_rfl) (by rfl) hz (fun W' hSw => (by
    have z10 := hSw.cell 10 (vo) rfl
    have z11 := hSw.cell 11 (.int .i64 m.st) rfl
    go_simp; first | done | with_reducible rfl)) ?_
  simp only [List.setIfInBounds_toArray, List.set_cons_zero, List.set_cons_succ]
  refine Disk.z_take 4 12 (v := .pointer (some ⟨w.heap.size, 11, none⟩)) rfl rfl (by kernel_rfl) (by kernel_rfl) (by kernel_rfl) (by kernel_rfl) (by rfl) hz (fun W' hSw => (by
    have z10 := hSw.cell 10 (vo) rfl
    have z11 := hSw.cell 11 (.int .i64 m.st) rfl
    go_simp; first | done | with_reducible rfl)) ?_
  simp only [List.setIfInBounds_toArray, List.set_cons_zero, List.set_cons_succ]
  refine Disk.z_take 5 13 (v := .int .i64 m.st) rfl rfl (by kernel_rfl) (by kernel_rfl) (by kernel_rfl) (by kernel_rfl) (by rfl) hz (fun W' hSw => (by
    have z10 := hSw.cell 10 (vo) rfl
    have z11 := hSw.cell 11 (.int .i64 m.st) rfl
    go_simp; first | done | with_reducible rfl)) ?_
  simp only [List.setIfInBounds_toArray, List.set_cons_zero, List.set_cons_succ]
  have hz1 : Bk (w1.drew.alloc (.cells #[] 2)) w.heap.size #[v1, v2, .int .i64 m.h.old, .int .i64 m.h.eden, .int .i64 m.h.surv, .bool m.h.flip, .int .i64 m.h.hash, v3, vp, .int .i64 m.pc, vo, .int .i64 m.st] 30 := hz.alloc _
  have RE := empty_ri w1.drew
  refine Disk.z_run 0 8 (w' := w1.drew.alloc (.cells #[] 2)) (v := .slice (some ⟨w1.drew.heap.size, 0, none⟩) 0 0) rfl rfl (by kernel_rfl) (by rfl) (by go_simp; first | done | with_reducible rfl) (.inr hz1) ?_
  simp only [List.setIfInBounds_toArray, List.set_cons_zero, List.set_cons_succ]
  have al := bel_one w1.drew (.cells #[] 2)
  have bd : Below w.heap.size w w1.drew := bw1.drew
  have bw2 := bel_after bd al
  obtain ⟨u, w3, run, hi, hos, hg, hrow⟩ := run_appK (w1.drew.alloc (.cells #[] 2)) 26 w1.drew.heap.size RE vo m.out (io.later bw2) (by omega)
  have le1 : w.heap.size ≤ w1.drew.heap.size := bd.size
  have lt1 : w.heap.size < w1.drew.heap.size := B1.drew.lt
  have sz2 : (w1.drew.alloc (.cells #[] 2)).heap.size = w1.drew.heap.size + 1 := by simp
  have hz3 : Bk w3 w.heap.size #[v1, v2, .int .i64 m.h.old, .int .i64 m.h.eden, .int .i64 m.h.surv, .bool m.h.flip, .int .i64 m.h.hash, v3, vp, .int .i64 m.pc, vo, .int .i64 m.st] 30 := hz1.off hg (by intro e; injection e with e; omega)
  have bw3 : Below w.heap.size w w3 := Below.grown bw2 hg (by omega) (fun q hq => by cases hq; exact le1)
  have R2 := R w3 u hi hos (fun b hb => by have := hrow b hb; omega)
  clear hz1 RE R hi hos hg hrow sz2 le1 lt1
  refine Disk.z_run 3 11 (w' := w3) (v := u) rfl rfl (by kernel_rfl) (by rfl) (exec_appK _ _ rfl _ _ rfl rfl run) (.inr hz3) ?_
  simp only [List.setIfInBounds_toArray, List.set_cons_zero, List.set_cons_succ]
  refine Disk.z_take 6 2 (v := u) rfl rfl (by kernel_rfl) (by kernel_rfl) (by kernel_rfl) (by kernel_rfl) (by rfl) hz3 (fun W' hSw => (by
    clear hSw
    go_simp; first | done | with_reducible rfl)) ?_
  simp only [List.setIfInBounds_toArray, List.set_cons_zero, List.set_cons_succ]
  refine Disk.z_take 7 3 (v := .int .i64 m.st) rfl rfl (by kernel_rfl) (by kernel_rfl) (by kernel_rfl) (by kernel_rfl) (by rfl) hz3 (fun W' hSw => (by
    clear hSw
    go_simp; first | done | with_reducible rfl)) ?_
  simp only [List.setIfInBounds_toArray, List.set_cons_zero, List.set_cons_succ]
  refine Disk.z_done (by kernel_rfl) ?_ _
  clear hz hz3 B0 B1 run
  go_wp2
  go_ret2
  exact ⟨R2, bw3⟩

end Go.Proofs.YtgacacbncefeaaaGreat

/- NewVm of the model. -/
namespace Go.Proofs.YtgacacbncefeaaaGreat
open Go.RowKit

theorem two_ri (w : World) (a b : Int) : RI (w.alloc (.cells #[.int .i64 a, .int .i64 b] 2)) w.heap.size [a, b] 2 := by
  refine ⟨fun i => (#[.int .i64 a, .int .i64 b] : Array Value)[i]?.getD undef, row_any w #[.int .i64 a, .int .i64 b] 2, Nat.le_refl _, fun i hi => ?_⟩
  match i, hi with
  | 0, _ => rfl
  | 1, _ => rfl
/-- append of whatever Codes to an empty row of the call's own, as a run. -/
theorem run_appC (w : World) (ty : TypeId) (g : Nat) (hR : w.ownsRow 0 59 2 (.slice (some ⟨g, 0, none⟩) 0 0) 0 []) (v : Value) (l : List Cd) (hI : CR w v l) (hl : l.length ≤ 1000000000) :
    ∃ u w', (Builtin.append_ #[24, 24] ty #[.slice (some ⟨g, 0, none⟩) 0 0, v]).run Tryz.prog w = .ok u w' ∧ u.oneCell' = true ∧ CR w' u l ∧ Disk.OS w' 59 2 u l.length ∧ w.grownBy w' (some g) ∧ (∀ b, Disk.rowOf u l.length = some b → b = g ∨ b = w.heap.size) := by
  obtain ⟨ao, cp, rfl, _, hc⟩ := hI
  by_cases h0 : l.length = 0
  · obtain rfl : l = [] := List.eq_nil_of_length_eq_zero h0
    obtain ⟨i, hi, hzz⟩ := Option.map_eq_some_iff.1 Tryz.infoCK
    simp only [Prod.mk.injEq] at hzz
    obtain ⟨hz, hsz, hby⟩ := hzz
    have hu : Tryz.prog.underlying 24 = some (.slice 59) := Tryz.underCK
    have hld : ∀ (x : Addr), (loadCells x 0).run Tryz.prog w = .ok #[] w := fun x => by simpa using run_loadCells_list (P := Tryz.prog) w x [] (by simp)
    refine ⟨.slice (some ⟨g, 0, none⟩) 0 0, w, ?_, by simp [Value.oneCell'], ⟨_, _, rfl, Nat.le_refl _, fun i hi => absurd hi (Nat.not_lt_zero i)⟩, ⟨_, _, rfl, .inl rfl⟩, ⟨rfl, rfl, rfl, Nat.le_refl _, fun _ _ _ => rfl⟩, fun b hb => by unfold Disk.rowOf at hb; simp at hb⟩
    cases ao <;> simp [Builtin.append_, run_underlying hu, Builtin.lenOf, Builtin.firstCells, sizeOf, typeInfo, hi, hld, storeCells]
  · obtain ⟨i, hi, hzz⟩ := Option.map_eq_some_iff.1 Tryz.infoCK
    simp only [Prod.mk.injEq] at hzz
    obtain ⟨hz, hsz, hby⟩ := hzz
    obtain ⟨b, q, rfl, _, _⟩ := hc 0 (by omega)
    obtain ⟨v', w', run, h1, h2, h3, h4⟩ := run_append_own_at (P := Tryz.prog) w 0 24 ty 59 i _ 2 16 Tryz.underCK hi hz hsz hby rfl (by omega) _ 0 [] hR ⟨b, q, none⟩ l.length cp ((List.range (l.length * 2)).map (kcell l)) (by simp) (fun j u hj => by
      have hj2 : j < l.length * 2 := by
        rcases Nat.lt_or_ge j (l.length * 2) with k | k
        · exact k
        · rw [List.getElem?_eq_none (by simp; omega)] at hj; cases hj
      rw [kcells_get l j hj2] at hj
      simp only [Option.some.injEq] at hj
      subst hj
      obtain ⟨b', q', e2, hx, hy⟩ := hc (j / 2) (by omega)
      simp only [Option.some.injEq, Addr.mk.injEq, and_true] at e2
      obtain ⟨rfl, rfl⟩ := e2
      have ad : (⟨b, q, none⟩ : Addr).add j = ⟨b, q + j, none⟩ := by
        unfold Addr.add
        split
        · subst j; rfl
        · rfl
      rw [ad]
      unfold kcell
      split
      · rw [← hx, show q + j / 2 * 2 = q + j from by omega]
      · rw [← hy, show q + j / 2 * 2 + 1 = q + j from by omega]) (fun u hu => by
      obtain ⟨z, _, rfl⟩ := List.mem_map.1 hu
      rfl) (by unfold maxLen; omega) (by omega) (Nat.zero_le _)
    rw [List.nil_append, Nat.zero_add] at h1
    obtain ⟨_, h1⟩ := h1
    rcases h1 with ⟨_, e⟩ | ⟨g', cap, cur, rfl, _, hh, k1, k2, k3, k4⟩
    · omega
    have hcell : ∀ c, c < l.length * 2 → cur[c]? = some (kcell l c) := fun c hcx => by
      have q2 : (cur.toList.take (l.length * 2))[c]? = ((List.range (l.length * 2)).map (kcell l))[c]? := by rw [k4]
      rw [List.getElem?_take_of_lt hcx, kcells_get l c hcx] at q2
      rw [← Array.getElem?_toList]
      exact q2
    have hw : ∀ c, c < l.length * 2 → w'.cell? ⟨g', c, none⟩ = some (kcell l c) := fun c hcx => by
      simp [World.cell?, hh, hcell c hcx]
    refine ⟨_, w', run, by simp [Value.oneCell'], ⟨_, _, rfl, k1, fun i hi => ⟨g', 0, rfl, ?_, ?_⟩⟩, ⟨_, _, rfl, .inr ⟨g', cap * 2, fun c => cur[c]?.getD undef, rfl, by omega, ⟨cur, hh, k3, fun c hcx => ?_⟩⟩⟩, h2, fun b hb => ?_⟩
    · rw [Nat.zero_add, hw _ (by omega), kcell_even]
    · rw [Nat.zero_add, hw _ (by omega), kcell_odd]
    · have : c < cur.size := by omega
      simp [this]
    · unfold Disk.rowOf at hb
      rw [if_neg h0] at hb
      have hb2 : some g' = some b := hb
      injection hb2 with hb2
      subst hb2
      rcases h4 with e | e
      · left
        have e2 : some g' = some g := e
        injection e2
      · right
        have e2 : some g' = some w.heap.size := e
        injection e2

theorem sNew1 (v : Value) (w : World) (hv : HR w v newH) : Calls Tryz.prog 40 #[v, .int .i64 1, .int .i64 40] w fun e w' => (∃ u, e = .returned (.tuple #[u, .int .i64 4001, .bool true]) ∧ HN w.heap.size w' u nT1) ∧ Below w.heap.size w w' := by
  have q := specNew_c v newH 1 40 w hv (by show newW.length ≤ _; rw [newW_length]; omega) (by show ([] : List Int).length ≤ _; simp) (by show ([] : List Int).length ≤ _; simp)
  rw [nW1, nq1] at q
  exact q
theorem sNew2 (v : Value) (w : World) (hv : HR w v nT1) : Calls Tryz.prog 40 #[v, .int .i64 2, .int .i64 10] w fun e w' => (∃ u, e = .returned (.tuple #[u, .int .i64 4089, .bool true]) ∧ HN w.heap.size w' u nT2) ∧ Below w.heap.size w w' := by
  obtain ⟨⟨l1, l2, l3⟩, _⟩ := nT_len
  have q := specNew_c v nT1 2 10 w hv (by omega) (by omega) (by omega)
  rw [nW2, nq2] at q
  exact q

set_option maxRecDepth 100000 in
set_option maxHeartbeats 3200000 in
theorem specNewVm_any (vp : Value) (pr : List Cd) (w : World) (ip : CR w vp pr) (hl : pr.length ≤ 1000000000) :
    Calls Tryz.prog 10 #[vp] w fun e w' => (∃ v, e = .returned (.tuple #[v, .bool (progB pr)]) ∧ VN w.heap.size w' v (nvR pr)) ∧ Below w.heap.size w w' := by
  obtain ⟨M, hM⟩ : ∃ M, M = nvR pr := ⟨_, rfl⟩
  rw [← hM]
  replace hM : Hid (M = nvR pr) := hM
  have hb0 := bel_one w (.cells #[.slice none 0 0, .slice none 0 0, .int .i64 0, .int .i64 0, .int .i64 0, .bool false, .int .i64 0, .slice none 0 0, .slice none 0 0, .int .i64 0, .slice none 0 0, .int .i64 0] 30)
  have R0 : Bk (w.alloc (.cells #[.slice none 0 0, .slice none 0 0, .int .i64 0, .int .i64 0, .int .i64 0, .bool false, .int .i64 0, .slice none 0 0, .slice none 0 0, .int .i64 0, .slice none 0 0, .int .i64 0] 30)) w.heap.size #[.slice none 0 0, .slice none 0 0, .int .i64 0, .int .i64 0, .int .i64 0, .bool false, .int .i64 0, .slice none 0 0, .slice none 0 0, .int .i64 0, .slice none 0 0, .int .i64 0] 30 := Bk.new w _ _
  have P0 := specProgB_any vp pr _ (ip.later hb0) hl
  have ltR := R0.lt
  go_enter Tryz.func10, Tryz.ntmps10
  go_wp2_with fail
  refine P0.mono ?_
  clear P0
  rintro e w1 ⟨rfl, hb1⟩
  have bw1 := bel_after hb0 hb1
  have R1 := R0.later hb1
  have le1 : w.heap.size + 1 ≤ w1.heap.size := R1.lt
  cases PB : progB pr
  case false =>
    have eM : Hid (M = zeroM) := (by rw [hM.out]; unfold nvR; rw [PB]; rfl : M = zeroM)
    obtain ⟨w2, run2, R2, g2, z2⟩ := R1.store 30 #[.slice none 0 0, .slice none 0 0, .int .i64 0, .int .i64 0, .int .i64 0, .bool false, .int .i64 0, .slice none 0 0, .slice none 0 0, .int .i64 0, .slice none 0 0, .int .i64 0] (by simp) (by kernel_rfl) (by simp [Value.oneCell'])
    have bw2 : Below w.heap.size w w2 := Below.grown bw1 g2 bw1.size (fun q hq => by cases hq; omega)
    clear ltR
    go_wp2_with (refine wp_storeK run2 rfl _ _ rfl rfl rfl rfl ?_)
    have r0 := R2.cell 0 (.slice none 0 0) rfl
    have r1 := R2.cell 1 (.slice none 0 0) rfl
    have r2 := R2.cell 2 (.int .i64 0) rfl
    have r3 := R2.cell 3 (.int .i64 0) rfl
    have r4 := R2.cell 4 (.int .i64 0) rfl
    have r5 := R2.cell 5 (.bool false) rfl
    have r6 := R2.cell 6 (.int .i64 0) rfl
    have r7 := R2.cell 7 (.slice none 0 0) rfl
    have r8 := R2.cell 8 (.slice none 0 0) rfl
    have r9 := R2.cell 9 (.int .i64 0) rfl
    have r10 := R2.cell 10 (.slice none 0 0) rfl
    have r11 := R2.cell 11 (.int .i64 0) rfl
    exact bodyPost_ret (v := .tuple #[.agg #[.slice none 0 0, .slice none 0 0, .int .i64 0, .int .i64 0, .int .i64 0, .bool false, .int .i64 0, .slice none 0 0, .slice none 0 0, .int .i64 0, .slice none 0 0, .int .i64 0], .bool false]) (by simp [results, Tryz.results10, go_sem, r0, r1, r2, r3, r4, r5, r6, r7, r8, r9, r10, r11]) rfl ⟨⟨_, by rw [PB], by rw [eM.out]; exact zero_vn _ _⟩, bw2⟩
  have eM : Hid (M = ⟨{ nT2 with roots := [4001, 4089] }, pr, 0, [], 0⟩) := (by rw [hM.out]; unfold nvR; rw [PB]; show nvM pr = _; unfold nvM; rw [nT4_eq] : M = _)
  replace PB : Hid (progB pr = true) := PB
  clear ltR hb1 hb0 hM
  go_wp2_with fail
  refine (specNewHeap_any w1).mono ?_
  rintro e w2 ⟨⟨u0, rfl, h0⟩, hb2⟩
  have bw2 := bel_after bw1 hb2
  have R2 := R1.later hb2
  have C := sNew1 u0 w2 h0.hr
  clear h0 R0 R1
  go_wp2_with fail
  refine C.mono ?_
  clear C
  rintro e w3 ⟨⟨u1, rfl, h1⟩, hb3⟩
  have bw3 := bel_after bw2 hb3
  have R3 := R2.later hb3
  obtain ⟨a1, c1, b1, d1, e1, f1, rfl, -⟩ := h1.out
  have al := bel_one w3 (.cells #[.slice a1 nT1.words.length c1, .slice b1 nT1.roots.length d1, .int .i64 nT1.old, .int .i64 nT1.eden, .int .i64 nT1.surv, .bool nT1.flip, .int .i64 nT1.hash, .slice e1 nT1.kept.length f1] 28)
  have X4 : Bk (w3.alloc (.cells #[.slice a1 nT1.words.length c1, .slice b1 nT1.roots.length d1, .int .i64 nT1.old, .int .i64 nT1.eden, .int .i64 nT1.surv, .bool nT1.flip, .int .i64 nT1.hash, .slice e1 nT1.kept.length f1] 28)) w3.heap.size #[.slice a1 nT1.words.length c1, .slice b1 nT1.roots.length d1, .int .i64 nT1.old, .int .i64 nT1.eden, .int .i64 nT1.surv, .bool nT1.flip, .int .i64 nT1.hash, .slice e1 nT1.kept.length f1] 28 := Bk.new w3 _ _
  have R4 := R3.later al
  have bw4 := bel_after bw3 al
  have le3 : w.heap.size + 1 ≤ w3.heap.size := R3.lt
  have C := sNew2 _ _ (h1.later al).hr
  have x0 := X4.cell 0 (.slice a1 nT1.words.length c1) rfl
  have x1 := X4.cell 1 (.slice b1 nT1.roots.length d1) rfl
  have x2 := X4.cell 2 (.int .i64 nT1.old) rfl
  have x3 := X4.cell 3 (.int .i64 nT1.eden) rfl
  have x4 := X4.cell 4 (.int .i64 nT1.surv) rfl
  have x5 := X4.cell 5 (.bool nT1.flip) rfl
  have x6 := X4.cell 6 (.int .i64 nT1.hash) rfl
  have x7 := X4.cell 7 (.slice e1 nT1.kept.length f1) rfl
  clear h1 R2 R3
  go_wp2_with fail
  refine C.mono ?_
  clear C x0 x1 x2 x3 x4 x5 x6 x7
  rintro e w5 ⟨⟨u2, rfl, h2⟩, hb5⟩
  have bw5 := bel_after bw4 hb5
  have R5 := R4.later hb5
  have X5 := X4.later hb5
  have sz4 : (w3.alloc (.cells #[.slice a1 nT1.words.length c1, .slice b1 nT1.roots.length d1, .int .i64 nT1.old, .int .i64 nT1.eden, .int .i64 nT1.surv, .bool nT1.flip, .int .i64 nT1.hash, .slice e1 nT1.kept.length f1] 28)).heap.size = w3.heap.size + 1 := by simp
  obtain ⟨a2, c2, b2, d2, e2, f2, rfl, -⟩ := h2.out
  have OK2 : (#[.slice a2 nT2.words.length c2, .slice b2 nT2.roots.length d2, .int .i64 nT2.old, .int .i64 nT2.eden, .int .i64 nT2.surv, .bool nT2.flip, .int .i64 nT2.hash, .slice e2 nT2.kept.length f2] : Array Value).all (·.oneCell') = true := by simp [Value.oneCell']
  obtain ⟨w6, run6, X6, g6, z6⟩ := X5.store 28 #[.slice a2 nT2.words.length c2, .slice b2 nT2.roots.length d2, .int .i64 nT2.old, .int .i64 nT2.eden, .int .i64 nT2.surv, .bool nT2.flip, .int .i64 nT2.hash, .slice e2 nT2.kept.length f2] (by simp) (by kernel_rfl) OK2
  have R6 := R5.off g6 (by intro e; injection e with e; omega)
  have bw6 : Below w.heap.size w w6 := Below.grown bw5 g6 bw5.size (fun q hq => by cases hq; omega)
  have h6 := (h2.keep (w' := w6) (fun b p q => g6.block b q (by intro e; injection e with e; omega))).down (C := w3.heap.size + 1) (by omega)
  have le5 : w3.heap.size + 1 ≤ w5.heap.size := by have := hb5.size; omega
  have hi6 : ∀ b, (Disk.rowOf (.slice a2 nT2.words.length c2) nT2.words.length = some b ∨ Disk.rowOf (.slice e2 nT2.kept.length f2) nT2.kept.length = some b) → b < w6.heap.size := fun b hb => by
    obtain ⟨⟨o1, o2, o3⟩, _⟩ := h6.irs
    rcases hb with hb | hb
    · exact o1.row b hb
    · exact o3.row b hb
  clear h2 R4 R5 X4 X5 g6 OK2 hb5
  have lt6 := X6.lt
  have x1 := X6.cell 1 (.slice b2 nT2.roots.length d2) rfl
  have xf := X6.frozen 1
  have X7 := X6.setc 1 (.slice (some ⟨w6.heap.size, 0, none⟩) 2 2) #[.slice a2 nT2.words.length c2, .slice (some ⟨w6.heap.size, 0, none⟩) 2 2, .int .i64 nT2.old, .int .i64 nT2.eden, .int .i64 nT2.surv, .bool nT2.flip, .int .i64 nT2.hash, .slice e2 nT2.kept.length f2] rfl
  have g7 := Disk.grown_set w6 w3.heap.size 1 (.slice (some ⟨w6.heap.size, 0, none⟩) 2 2)
  have R7 := R6.off g7 (by intro e; injection e with e; omega)
  have bw7 : Below w.heap.size w (w6.setCell ⟨w3.heap.size, 1, none⟩ (.slice (some ⟨w6.heap.size, 0, none⟩) 2 2)) := Below.grown bw6 g7 bw6.size (fun q hq => by cases hq; omega)
  have h7 := h6.keep (fun b p q => g7.block b q (by intro e; injection e with e; omega))
  clear R6 X6 h6 z6 sz4
  go_wp2_with (first | refine wp_storeK run6 rfl _ _ rfl rfl rfl rfl ?_ | fail)
  clear x1 xf run6 g7
  obtain ⟨w7, e7⟩ : ∃ x, x = w6.setCell ⟨w3.heap.size, 1, none⟩ (.slice (some ⟨w6.heap.size, 0, none⟩) 2 2) := ⟨_, rfl⟩
  have sz7 : w7.heap.size = w6.heap.size := by rw [e7]; simp
  rw [← e7] at X7 R7 bw7 h7 ⊢
  clear e7
  have al8 := bel_one w7 (.cells #[.int .i64 4001, .int .i64 4089] 2)
  have RR8 := two_ri w7 4001 4089
  rw [sz7] at RR8
  have X8 := X7.later al8
  have R8 := R7.later al8
  have h8 := h7.later al8
  have bw8 := bel_after bw7 al8
  obtain ⟨w8, e8⟩ : ∃ x, x = w7.alloc (.cells #[.int .i64 4001, .int .i64 4089] 2) := ⟨_, rfl⟩
  have sz8 : w8.heap.size = w6.heap.size + 1 := by rw [e8]; simp [sz7]
  rw [← e8] at X8 R8 bw8 h8 RR8 ⊢
  clear e8 X7 R7 h7 al8 sz7
  obtain ⟨gr, egr⟩ : ∃ x, x = w6.heap.size := ⟨_, rfl⟩
  rw [← egr] at X8 RR8 hi6 sz8 ⊢
  have l3r : w3.heap.size + 1 ≤ gr := by omega
  clear egr lt6 le5
  obtain ⟨⟨s1, s2, s3⟩, ⟨t1, t2, t3⟩, ⟨lo1, lo2, lo3⟩, _, q13, _⟩ := h8.irs
  refine Disk.z_plain 99 (fun W' => Bk W' w3.heap.size #[.slice a2 nT2.words.length c2, .slice (some ⟨gr, 0, none⟩) 2 2, .int .i64 nT2.old, .int .i64 nT2.eden, .int .i64 nT2.surv, .bool nT2.flip, .int .i64 nT2.hash, .slice e2 nT2.kept.length f2] 28) (by kernel_rfl) X8.drew fun hz => ?_
  refine Disk.z_take 0 29 (v := .agg #[.slice a2 nT2.words.length c2, .slice (some ⟨gr, 0, none⟩) 2 2, .int .i64 nT2.old, .int .i64 nT2.eden, .int .i64 nT2.surv, .bool nT2.flip, .int .i64 nT2.hash, .slice e2 nT2.kept.length f2]) rfl rfl (by kernel_rfl) (by kernel_rfl) (by kernel_rfl) (by kernel_rfl) (by rfl) hz (fun W' hSw => (by
    have z0 := hSw.cell 0 (.slice a2 nT2.words.length c2) rfl
    have z1 := hSw.cell 1 (.slice (some ⟨gr, 0, none⟩) 2 2) rfl
    have z2 := hSw.cell 2 (.int .i64 nT2.old) rfl
    have z3 := hSw.cell 3 (.int .i64 nT2.eden) rfl
    have z4 := hSw.cell 4 (.int .i64 nT2.surv) rfl
    have z5 := hSw.cell 5 (.bool nT2.flip) rfl
    have z6 := hSw.cell 6 (.int .i64 nT2.hash) rfl
    have z7 := hSw.cell 7 (.slice e2 nT2.kept.length f2) rfl
    go_simp; first | done | with_reducible rfl)) ?_
  simp only [List.setIfInBounds_toArray, List.set_cons_zero, List.set_cons_succ]
  refine Disk.z_take 2 31 (v := vp) rfl rfl (by kernel_rfl) (by kernel_rfl) (by kernel_rfl) (by kernel_rfl) (by rfl) hz (fun W' hSw => (by
    clear hSw
    go_simp; first | done | with_reducible rfl)) ?_
  simp only [List.setIfInBounds_toArray, List.set_cons_zero, List.set_cons_succ]
  have hz1 : Bk (w8.drew.alloc (.cells #[] 59)) w3.heap.size #[.slice a2 nT2.words.length c2, .slice (some ⟨gr, 0, none⟩) 2 2, .int .i64 nT2.old, .int .i64 nT2.eden, .int .i64 nT2.surv, .bool nT2.flip, .int .i64 nT2.hash, .slice e2 nT2.kept.length f2] 28 := hz.alloc _
  have OE := own_none w8.drew 0 59 2 (Nat.zero_le _)
  refine Disk.z_run 1 30 (w' := w8.drew.alloc (.cells #[] 59)) (v := .slice (some ⟨w8.drew.heap.size, 0, none⟩) 0 0) rfl rfl (by kernel_rfl) (by rfl) (by go_simp; first | done | with_reducible rfl) (.inr hz1) ?_
  simp only [List.setIfInBounds_toArray, List.set_cons_zero, List.set_cons_succ]
  have al9 := bel_one w8.drew (.cells #[] 59)
  have b89 : Below w8.heap.size w8 (w8.drew.alloc (.cells #[] 59)) := bel_after (Below.refl _ _).drew al9
  have bw9 := bel_after bw8 b89
  obtain ⟨u, w10, run, -, cu, su, hg, hrow⟩ := run_appC (w8.drew.alloc (.cells #[] 59)) 24 w8.drew.heap.size OE vp pr (ip.later bw9) hl
  obtain ⟨ua, uc, rfl, -⟩ := CRs cu
  have szd : w8.drew.heap.size = w8.heap.size := rfl
  have sz9 : (w8.drew.alloc (.cells #[] 59)).heap.size = w8.heap.size + 1 := by simp
  have hk : ∀ b, b < w8.heap.size → w10.heap[b]? = w8.heap[b]? := fun b hb => (hg.block b (by omega) (by intro e; injection e with e; omega)).trans (b89.block b hb)
  have hz3 : Bk w10 w3.heap.size #[.slice a2 nT2.words.length c2, .slice (some ⟨gr, 0, none⟩) 2 2, .int .i64 nT2.old, .int .i64 nT2.eden, .int .i64 nT2.surv, .bool nT2.flip, .int .i64 nT2.hash, .slice e2 nT2.kept.length f2] 28 := (hk _ X8.lt).trans X8
  have R10 : Bk w10 w.heap.size #[.slice none 0 0, .slice none 0 0, .int .i64 0, .int .i64 0, .int .i64 0, .bool false, .int .i64 0, .slice none 0 0, .slice none 0 0, .int .i64 0, .slice none 0 0, .int .i64 0] 30 := (hk _ R8.lt).trans R8
  have bw10 : Below w.heap.size w w10 := Below.grown bw9 hg bw9.size (fun q hq => by cases hq; have := bw8.size; omega)
  have z10 := hg.size
  refine Disk.z_run 3 32 (w' := w10) (v := .slice ua pr.length uc) rfl rfl (by kernel_rfl) (by rfl) (exec_appK _ _ rfl _ _ rfl rfl run) (.inr hz3) ?_
  simp only [List.setIfInBounds_toArray, List.set_cons_zero, List.set_cons_succ]
  have hrow' : ∀ b, Disk.rowOf (.slice ua pr.length uc) pr.length = some b → gr < b := fun b hb => by have := hrow b hb; omega
  clear run hz hz1 OE
  refine Disk.z_take 4 33 (v := .agg #[.slice a2 nT2.words.length c2, .slice (some ⟨gr, 0, none⟩) 2 2, .int .i64 nT2.old, .int .i64 nT2.eden, .int .i64 nT2.surv, .bool nT2.flip, .int .i64 nT2.hash, .slice e2 nT2.kept.length f2, .slice ua pr.length uc, .int .i64 0, .slice none 0 0, .int .i64 0]) rfl rfl (by kernel_rfl) (by kernel_rfl) (by kernel_rfl) (by kernel_rfl) (by rfl) hz3 (fun W' hSw => (by
    clear hSw
    go_simp; first | done | with_reducible rfl)) ?_
  simp only [List.setIfInBounds_toArray, List.set_cons_zero, List.set_cons_succ]
  have OKV : (#[.slice a2 nT2.words.length c2, .slice (some ⟨gr, 0, none⟩) 2 2, .int .i64 nT2.old, .int .i64 nT2.eden, .int .i64 nT2.surv, .bool nT2.flip, .int .i64 nT2.hash, .slice e2 nT2.kept.length f2, .slice ua pr.length uc, .int .i64 0, .slice none 0 0, .int .i64 0] : Array Value).all (·.oneCell') = true := by simp [Value.oneCell']
  obtain ⟨w12, run12, R12, g12, z12⟩ := R10.store 30 #[.slice a2 nT2.words.length c2, .slice (some ⟨gr, 0, none⟩) 2 2, .int .i64 nT2.old, .int .i64 nT2.eden, .int .i64 nT2.surv, .bool nT2.flip, .int .i64 nT2.hash, .slice e2 nT2.kept.length f2, .slice ua pr.length uc, .int .i64 0, .slice none 0 0, .int .i64 0] (by simp) (by kernel_rfl) OKV
  have X12 := hz3.off g12 (by intro e; injection e with e; omega)
  have bw12 : Below w.heap.size w w12 := Below.grown bw10 g12 bw10.size (fun q hq => by cases hq; omega)
  have hk2 : ∀ b, w.heap.size + 1 ≤ b → b < w8.heap.size → w12.heap[b]? = w8.heap[b]? := fun b h1 h2 => (g12.block b (by omega) (by intro e; injection e with e; omega)).trans (hk b h2)
  have cu12 := cu.keepR (w' := w12) (B := w.heap.size + 1) (S := w10.heap.size) (fun b h1 h2 => g12.block b h2 (by intro e; injection e with e; omega)) (fun b hb => ⟨by have := hrow' b hb; omega, su.row b hb⟩)
  have su12 := OS.keepC su (w' := w12) (B := w.heap.size + 1) (S := w10.heap.size) (fun b h1 h2 => g12.block b h2 (by intro e; injection e with e; omega)) (fun b hb => ⟨by have := hrow' b hb; omega, su.row b hb⟩)
  have RR12 := RR8.block (hk2 gr (by omega) RR8.lt)
  have kB : ∀ b, w3.heap.size + 1 ≤ b → b < w8.heap.size → w12.heap[b]? = w8.heap[b]? := fun b h1 h2 => hk2 b (by omega) h2
  have t1x := t1.keepR kB (fun b hb => ⟨by have := lo1 b hb; omega, s1.row b hb⟩)
  have s1x := OS.keepC s1 kB (fun b hb => ⟨by have := lo1 b hb; omega, s1.row b hb⟩)
  have t3x := t3.keepR kB (fun b hb => ⟨by have := lo3 b hb; omega, s3.row b hb⟩)
  have s3x := OS.keepC s3 kB (fun b hb => ⟨by have := lo3 b hb; omega, s3.row b hb⟩)
  have VNK : VN w.heap.size w12 (.agg #[.slice a2 nT2.words.length c2, .slice (some ⟨gr, 0, none⟩) 2 2, .int .i64 nT2.old, .int .i64 nT2.eden, .int .i64 nT2.surv, .bool nT2.flip, .int .i64 nT2.hash, .slice e2 nT2.kept.length f2, .slice ua pr.length uc, .int .i64 0, .slice none 0 0, .int .i64 0]) ⟨{ nT2 with roots := [4001, 4089] }, pr, 0, [], 0⟩ := by
    have hnx : HN w.heap.size w12 (.agg #[.slice a2 nT2.words.length c2, .slice (some ⟨gr, 0, none⟩) 2 2, .int .i64 nT2.old, .int .i64 nT2.eden, .int .i64 nT2.surv, .bool nT2.flip, .int .i64 nT2.hash, .slice e2 nT2.kept.length f2]) { nT2 with roots := [4001, 4089] } := by
      refine ⟨_, _, _, rfl, ⟨s1x, RR12.os, s3x⟩, ⟨t1x, RR12.ir (Nat.le_refl _), t3x⟩, ⟨fun b hb => by have := lo1 b hb; omega, fun b hb => by have := rowof hb; omega, fun b hb => by have := lo3 b hb; omega⟩, fun b hb e => ?_, q13, fun b hb e => ?_⟩
      · have := rowof e
        have := hi6 b (.inl hb)
        omega
      · have := rowof hb
        have := hi6 b (.inr e)
        omega
    refine ⟨⟨_, _, _, _, _, rfl, hnx, ⟨cu12, su12⟩, ⟨⟨_, _, rfl, Nat.le_refl _, fun i hi => absurd hi (Nat.not_lt_zero i)⟩, ⟨_, _, rfl, .inl rfl⟩⟩, fun b hb => ?_, fun b hb => (zero_row hb).elim⟩⟩
    have lb := hrow' b hb
    exact ⟨by omega, fun e => by have := hi6 _ (.inl e); omega, fun e => by have := rowof e; omega, fun e => by have := hi6 _ (.inr e); omega, fun e => (zero_row e).elim⟩
  clear cu su cu12 su12 RR8 RR12 t1 t2 t3 s1 s2 s3 t1x s1x t3x s3x hi6 hrow hrow' hk hk2 kB h8 R8 X8 R10 g12 OKV hg lo1 lo2 lo3 q13
  refine Disk.z_skip 5 rfl rfl (by kernel_rfl) (by rfl) (exec_storeQ rfl rfl rfl run12) (.inr X12) ?_
  refine Disk.z_take 6 3 (v := .bool true) rfl rfl (by kernel_rfl) (by kernel_rfl) (by kernel_rfl) (by kernel_rfl) (by rfl) X12 (fun W' hSw => (by
    clear hSw
    go_simp; first | done | with_reducible rfl)) ?_
  simp only [List.setIfInBounds_toArray, List.set_cons_zero, List.set_cons_succ]
  refine Disk.z_done (by kernel_rfl) ?_ _
  have r0 := R12.cell 0 (.slice a2 nT2.words.length c2) rfl
  have r1 := R12.cell 1 (.slice (some ⟨gr, 0, none⟩) 2 2) rfl
  have r2 := R12.cell 2 (.int .i64 nT2.old) rfl
  have r3 := R12.cell 3 (.int .i64 nT2.eden) rfl
  have r4 := R12.cell 4 (.int .i64 nT2.surv) rfl
  have r5 := R12.cell 5 (.bool nT2.flip) rfl
  have r6 := R12.cell 6 (.int .i64 nT2.hash) rfl
  have r7 := R12.cell 7 (.slice e2 nT2.kept.length f2) rfl
  have r8 := R12.cell 8 (.slice ua pr.length uc) rfl
  have r9 := R12.cell 9 (.int .i64 0) rfl
  have r10 := R12.cell 10 (.slice none 0 0) rfl
  have r11 := R12.cell 11 (.int .i64 0) rfl
  clear X12 run12 hz3
  go_wp2
  exact bodyPost_ret (v := .tuple #[.agg #[.slice a2 nT2.words.length c2, .slice (some ⟨gr, 0, none⟩) 2 2, .int .i64 nT2.old, .int .i64 nT2.eden, .int .i64 nT2.surv, .bool nT2.flip, .int .i64 nT2.hash, .slice e2 nT2.kept.length f2, .slice ua pr.length uc, .int .i64 0, .slice none 0 0, .int .i64 0], .bool true]) (by simp [results, Tryz.results10, go_sem, r0, r1, r2, r3, r4, r5, r6, r7, r8, r9, r10, r11]) rfl ⟨⟨_, by rw [PB.out], by rw [eM.out]; exact VNK⟩, bw12⟩

end Go.Proofs.YtgacacbncefeaaaGreat
