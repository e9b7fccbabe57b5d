/- The writes of a commit, of the model. -/
import Derived.Test.YtjclpbaiiklhcaaGreatDoorZCwI
import Derived.Test.YtjclpbaiiklhcaaGreatDoorZV15
import Derived.Test.YtjclpbaiiklhcaaGreatDoorZV16
import Derived.BigQuiet
import Derived.Deep.QuietTactic
namespace Go.Proofs.YtjclpbaiiklhcaaGreatDoor
open Go.RowKit

def scriptR (ss : List ByteArray) (ws : List Disk.Wr) (bs : List ByteArray) : List Disk.Wr := if scrOk ss ws bs = true then scrW ss bs else []
theorem scriptR_no {ss : List ByteArray} {ws : List Disk.Wr} {bs : List ByteArray} (h : scrOk ss ws bs = false) : scriptR ss ws bs = [] := by unfold scriptR; rw [if_neg (by rw [h]; simp)]
theorem scriptR_yes {ss : List ByteArray} {ws : List Disk.Wr} {bs : List ByteArray} (h : scrOk ss ws bs = true) : scriptR ss ws bs = scrW ss bs := by unfold scriptR; rw [if_pos h]

theorem l1Max_any (a b : Int) (w : World) : Calls Tryz.prog 60 #[.int .i64 a, .int .i64 b] w fun e w' => e = .returned (.int .i64 (max a b)) ∧ w' = w := by
  by_cases h : b < a
  · go_enter Tryz.func60, Tryz.ntmps60
    go_wp2
    go_ret
    exact ⟨Disk.ret_int (by omega), rfl⟩
  · go_enter Tryz.func60, Tryz.ntmps60
    go_wp2
    go_ret
    exact ⟨Disk.ret_int (by omega), rfl⟩

theorem Tryz.infoU : (Tryz.prog.info? 4).map (fun i => (i.zero, i.size, i.bytes)) = some (some (.bool false), 1, 1) := by kernel_rfl
theorem Tryz.underU : Tryz.prog.underlying 41 = some (.slice 4) := by kernel_rfl
def noUsed : Array Value := madeCells #[.bool false] 64
theorem makeU (w : World) : (Instr.makeSlice 41 (.int .i64 64) (.int .i64 64)).run Tryz.prog w = .ok (.slice (some ⟨w.heap.size, 0, none⟩) 64 64) (w.alloc (.cells noUsed 4)) :=
  run_make_row' (P := Tryz.prog) 41 4 (.bool false) 1 Tryz.underU Tryz.infoU rfl .i64 .i64 64 (by omega) (by omega) w
theorem noUsed_row (w : World) : (w.alloc (.cells noUsed 4)).rowIs w.heap.size 4 64 (fun _ => .bool false) := World.rowIs_made w _ 64 4

def inB (l : List Int) (i : Nat) : Bool := decide ((i : Int) ∈ l)
def usedB (l : List Int) (j i : Nat) : Bool := decide ((i : Int) ∈ l ∨ (i : Int) ∈ (freeL l).take j)
theorem row_in {w : World} {b : Nat} {l : List Int} {k n : Nat} (h : w.rowIs b 4 64 (fun i => .bool (inB (l.take k) i))) (hk : k < l.length) (hn : l.getD k 0 = n) : (w.setCell ⟨b, n, none⟩ (.bool true)).rowIs b 4 64 (fun i => .bool (inB (l.take (k + 1)) i)) := by
  refine (h.set n (.bool true)).congr fun i _ => ?_
  show (if i = n then Value.bool true else _) = _
  unfold inB
  rw [take_snoc_free hk, hn]
  by_cases e : i = n
  · subst e; rw [if_pos rfl, decide_eq_true (List.mem_append_right _ (List.mem_singleton.2 rfl))]
  · rw [if_neg e]
    refine congrArg Value.bool (decide_eq_decide.2 ?_)
    rw [List.mem_append, List.mem_singleton]
    exact ⟨.inl, fun h => h.resolve_right (by omega)⟩
theorem row_used {w : World} {b : Nat} {l : List Int} {j n : Nat} (h : w.rowIs b 4 64 (fun i => .bool (usedB l j i))) (hj : j < (freeL l).length) (hn : (freeL l).getD j 0 = n) : (w.setCell ⟨b, n, none⟩ (.bool true)).rowIs b 4 64 (fun i => .bool (usedB l (j + 1) i)) := by
  refine (h.set n (.bool true)).congr fun i _ => ?_
  show (if i = n then Value.bool true else _) = _
  unfold usedB
  rw [take_snoc_free hj, hn]
  by_cases e : i = n
  · subst e; rw [if_pos rfl, decide_eq_true (.inr (List.mem_append_right _ (List.mem_singleton.2 rfl)))]
  · rw [if_neg e]
    refine congrArg Value.bool (decide_eq_decide.2 ?_)
    rw [List.mem_append, List.mem_singleton]
    exact ⟨fun h => h.imp id .inl, fun h => h.imp id (fun h => h.resolve_right (by omega))⟩
theorem used_less {l : List Int} {j f : Nat} (hj : j < (freeL l).length) (h2 : 2 ≤ f) (hf : (f : Int) < (freeL l).getD j 0) : usedB l j f = true := by
  unfold usedB
  exact decide_eq_true (freeL_less l hj (by omega) hf)
theorem used_here {l : List Int} {j f : Nat} (hj : j < (freeL l).length) (hf : (freeL l).getD j 0 = f) : usedB l j f = false := by
  unfold usedB
  refine decide_eq_false ?_
  rw [← hf]
  rintro (h | h)
  · exact (freeL_range l hj).2.2 h
  · exact freeL_new l hj h
theorem in_used (l : List Int) (i : Nat) : inB (l.take l.length) i = usedB l 0 i := by
  unfold inB usedB
  rw [List.take_length]
  exact decide_eq_decide.2 (by simp)
theorem row_low {w w' : World} {b t n : Nat} {f : Nat → Value} (h : w.rowIs b t n f) (hb : Below w.heap.size w w') : w'.rowIs b t n f := h.of_block (hb.block b h.lt)
/-- A row of another type is kept where an own row grows. -/
theorem row_keep {w w' : World} {b t n e' size' n' B' : Nat} {f : Nat → Value} {v' : Value} {xs' : List Value} (h : w.rowIs b t n f) (h' : w.ownsRow B' e' size' v' n' xs') (hne : t ≠ e') (hg : w.grownBy w' v'.ownBlock) : w'.rowIs b t n f := by
  refine h.of_block (hg.block b h.lt (fun e => ?_))
  obtain ⟨c, hc, _⟩ := h
  obtain ⟨_, h'⟩ := h'
  rcases h' with ⟨rfl, _⟩ | ⟨g', cap', cur', rfl, hB', hh', _⟩
  · simp [Value.ownBlock] at e
  · simp only [Value.ownBlock, Option.some.injEq] at e
    subst e
    rw [hc] at hh'
    cases hh'
    exact hne rfl
/-- An own row is kept where a row of another type is stored into. -/
theorem own_set {w : World} {b t n e' size' n' B' i : Nat} {f : Nat → Value} {v' : Value} {xs' : List Value} (h : w.rowIs b t n f) (h' : w.ownsRow B' e' size' v' n' xs') (hne : t ≠ e') (u : Value) : (w.setCell ⟨b, i, none⟩ u).ownsRow B' e' size' v' n' xs' := by
  refine World.ownsRow.kept h' (Disk.grown_set w b i u) ?_
  obtain ⟨c, hc, _⟩ := h
  obtain ⟨_, h'⟩ := h'
  rcases h' with ⟨rfl, _⟩ | ⟨g', cap', cur', rfl, hB', hh', _⟩
  · exact .inl rfl
  · refine .inr (fun e => ?_)
    simp only [Value.ownBlock, Option.some.injEq] at e
    subst e
    rw [hc] at hh'
    cases hh'
    exact hne rfl

theorem no_keep {w w' : World} {B B' e' size' n' : Nat} {v v' : Value} {ws : List Disk.Wr} {xs' : List Value} (h : Disk.NO B w v ws) (h' : w.ownsRow B' e' size' v' n' xs') (hne : 48 ≠ e') (hg : w.grownBy w' v'.ownBlock) : Disk.NO B w' v ws := h.imp id (fun h => own_keep h h' hne hg)
theorem no_set {w : World} {b t n B i : Nat} {f : Nat → Value} {v : Value} {ws : List Disk.Wr} (h : w.rowIs b t n f) (h' : Disk.NO B w v ws) (hne : t ≠ 48) (u : Value) : Disk.NO B (w.setCell ⟨b, i, none⟩ u) v ws := h'.imp id (fun h' => own_set h h' hne u)
theorem row_keepO {w w' : World} {b t n B : Nat} {f : Nat → Value} {v : Value} {ws : List Disk.Wr} (h : w.rowIs b t n f) (h' : Disk.NO B w v ws) (hne : t ≠ 48) (hg : w.grownBy w' (Disk.rowO v)) : w'.rowIs b t n f := by
  rcases h'.two with ⟨ao, rfl, _⟩ | ⟨ho, e⟩
  · exact h.of_block (hg.block b h.lt (by cases ao <;> simp [Disk.rowO]))
  · rw [e] at hg
    exact row_keep h ho hne hg
theorem own_keepO {w w' : World} {B e size n B' : Nat} {v v' : Value} {xs : List Value} {ws : List Disk.Wr} (h : w.ownsRow B e size v n xs) (h' : Disk.NO B' w v' ws) (hne : e ≠ 48) (hg : w.grownBy w' (Disk.rowO v')) : w'.ownsRow B e size v n xs := by
  rcases h'.two with ⟨ao, rfl, _⟩ | ⟨ho, e⟩
  · exact World.ownsRow.kept h hg (by cases hv : v.ownBlock <;> cases ao <;> simp [Disk.rowO])
  · rw [e] at hg
    exact own_keep h ho hne hg
theorem no_own {B : Nat} {w : World} {v : Value} {ws : List Disk.Wr} {x : Disk.Wr} (h : Disk.NO B w v (ws ++ [x])) : w.ownsRow B 48 2 v (ws ++ [x]).length (Disk.lcells (ws ++ [x])) := by
  rcases h with ⟨_, _, h⟩ | h
  · simp at h
  · exact h

set_option maxRecDepth 100000 in
set_option maxHeartbeats 6400000 in
theorem l3Script_any (v1 v2 bv : Value) (ss : List ByteArray) (ws : List Disk.Wr) (bs : List ByteArray) (w : World)
    (hv1 : Disk.SR w v1 ss) (hv2 : Disk.WR w v2 ws) (h1 : ss.length ≤ 10000000000000) (h2 : ws.length ≤ 10000000000000) (hbv : Disk.SR w bv bs) (h3 : bs.length ≤ 10000000000000) :
    Calls Tryz.prog 29 #[.agg #[v1, v2], bv] w fun x w' => (∃ v, x = .returned (.tuple #[v, .bool (scrOk ss ws bs)]) ∧ w'.ownsRow w.heap.size 48 2 v (scriptR ss ws bs).length (Disk.lcells (scriptR ss ws bs))) ∧ Below w.heap.size w w' := by
  have hb0 := bel_after (bel_one w (.cells #[v1, v2] 27)) (bel_one _ (.cells #[] 48))
  have OK := Disk.specDiskOk_any v1 v2 ss ws _ (hv1.later hb0) (hv2.later hb0) h1 h2
  have ow0 := own_none (w.alloc (.cells #[v1, v2] 27)) w.heap.size 48 2 (by simp)
  obtain ⟨bao, bcap, rfl, hbr⟩ := id hbv
  simp only [World.size_alloc] at ow0
  go_enter Tryz.func29, Tryz.ntmps29
  go_wp2_with fail
  refine OK.mono ?_
  rintro x w1 ⟨rfl, hb1⟩
  clear OK
  have hbw1 := bel_after hb0 hb1
  have d0 : w1.cell? ⟨w.heap.size, 0, none⟩ = some v1 := cell_later (bel_after (bel_one _ _) hb1) (by simp)
  have d1 : w1.cell? ⟨w.heap.size, 1, none⟩ = some v2 := cell_later (bel_after (bel_one _ _) hb1) (by simp)
  have ow1 := own_later ow0 hb1
  cases hok : Disk.okD ss ws
  · have G : Hid (scrOk ss ws bs = false) := scrOk_no1 hok
    clear hok
    go_wp2
    exact bodyPost_ret (v := .tuple #[.slice (some ⟨w.heap.size + 1, 0, none⟩) 0 0, .bool false]) (by simp [results, Tryz.results29, go_sem]) rfl ⟨⟨_, by rw [G.out], by rw [scriptR_no G.out]; exact ow1⟩, hbw1⟩
  have HOK : Hid (Disk.okD ss ws = true) := hok
  clear hok
  by_cases h30 : bs.length ≤ 30
  case neg =>
    have G : Hid (scrOk ss ws bs = false) := scrOk_no2 h30
    have g30 : decide ((30 : Int) < (bs.length : Int)) = true := by simp; omega
    clear h30
    go_wp2
    exact bodyPost_ret (v := .tuple #[.slice (some ⟨w.heap.size + 1, 0, none⟩) 0 0, .bool false]) (by simp [results, Tryz.results29, go_sem]) rfl ⟨⟨_, by rw [G.out], by rw [scriptR_no G.out]; exact ow1⟩, hbw1⟩
  have g30 : decide ((30 : Int) < (bs.length : Int)) = false := by simp; omega
  go_wp2
  go_loopw [7] (fun iv wr => ∃ k : Nat, k ≤ bs.length ∧ iv = .int .i64 k ∧ Hid (∀ i, i < k → (bs.getD i ByteArray.empty).size ≤ 200) ∧ wr = w1) (fun iv _ => bs.length - (intOf iv).toNat)
  case atStart => exact ⟨0, Nat.zero_le _, rfl, (fun i hi => absurd hi (Nat.not_lt_zero i) : ∀ i, i < 0 → (bs.getD i ByteArray.empty).size ≤ 200), rfl⟩
  case round =>
    obtain ⟨k, hk, rfl, hfit, rfl⟩ := hrel
    by_cases hlt : k < bs.length
    · obtain ⟨b6, o6, e6, hbc⟩ := hbr k hlt
      subst e6
      have hbc' := cell_later hbw1 hbc
      by_cases hs : (bs.getD k ByteArray.empty).size ≤ 200
      · have HF : Hid (∀ i, i < k + 1 → (bs.getD i ByteArray.empty).size ≤ 200) := Disk.all_upto hfit.out hs
        have hs' : decide ((200 : Int) < ((bs.getD k ByteArray.empty).size : Int)) = false := decide_eq_false (by omega)
        clear hbr hfit
        generalize bs.getD k ByteArray.empty = bd at *
        go_wp2
        exact ⟨⟨k + 1, by omega, by go_num, HF, trivial⟩, by simp [intOf]; omega⟩
      · have G : Hid (scrOk ss ws bs = false) := scrOk_no3 (fitB_not hlt hs)
        have hs' : decide ((200 : Int) < ((bs.getD k ByteArray.empty).size : Int)) = true := decide_eq_true (by omega)
        clear hbr hfit
        generalize bs.getD k ByteArray.empty = bd at *
        go_wp2
        exact bodyPost_ret (v := .tuple #[.slice (some ⟨w.heap.size + 1, 0, none⟩) 0 0, .bool false]) (by simp [results, Tryz.results29, go_sem]) rfl ⟨⟨_, by rw [G.out], by rw [scriptR_no G.out]; exact ow1⟩, hbw1⟩
    · obtain rfl : k = bs.length := by omega
      have HFB : Hid (fitB bs = true) := (by
        unfold fitB
        rw [List.all_eq_true]
        intro b hb
        obtain ⟨i, hi, e⟩ := List.mem_iff_getElem.1 hb
        have := hfit.out i hi
        rw [List.getD_eq_getElem?_getD, List.getElem?_eq_getElem hi] at this
        rw [decide_eq_true_eq, ← e]
        exact this : fitB bs = true)
      clear hfit
      have hS := ss_of (hv1.later hbw1) HOK.out
      obtain ⟨sao, scp, rfl, hsr⟩ := id hv1
      have hl64 := hS.len
      have p0 : (0 : Int) < (ss.length : Int) := by omega
      have p1 : (1 : Int) < (ss.length : Int) := by omega
      have HL64 : Hid (ss.length = 64) := hl64
      obtain ⟨sb, so, e0, hc0⟩ := hsr 0 (by omega)
      obtain ⟨sb', so', e0', hc1⟩ := hsr 1 (by omega)
      subst e0
      cases e0'
      rw [Nat.add_zero] at hc0
      have ft0 := hS.fit 0 (by omega)
      have ft1 := hS.fit 1 (by omega)
      have NW := l3Newest_any (.slice (some ⟨sb, so, none⟩) ss.length scp) v2 ss _ hS
      have N1 := newR_ok ss
      have OM : ∀ i, i < (newR ss).2.length → 2 ≤ (newR ss).2.getD i 0 ∧ (newR ss).2.getD i 0 ≤ 63 := fun i hi => by have := rowOk_at N1.1 hi; exact ⟨this.1, this.2.1⟩
      clear hl64
      go_wp2_with fail
      refine NW.mono ?_
      rintro x w3 ⟨⟨lv, rfl, hir⟩, hb3⟩
      have hbw3 := bel_after hbw1 hb3
      have t0 := cell_later hbw3 hc0
      have t1 := cell_later hbw3 hc1
      have d0' := cell_later hb3 d0
      have d1' := cell_later hb3 d1
      have ow3 := own_later ow1 hb3
      change w3.cell? _ = some (.string (textAt ss 0)) at t0
      change w3.cell? _ = some (.string (textAt ss 1)) at t1
      clear NW d0 d1 hS ow1 hb0 hb1
      go_wp2_with fail
      refine (l3Form_any (textAt ss 0) _ (by show (textAt ss 0).size ≤ _; omega)).mono ?_
      rintro x w4 ⟨⟨fv, rfl, _⟩, hb4⟩
      have t1' := cell_later hb4 t1
      have d0'' := cell_later hb4 d0'
      have d1'' := cell_later hb4 d1'
      have ow4 := own_later ow3 hb4
      have hir4 := hir.later hb4
      have hbw4 := bel_after hbw3 hb4
      clear t0 t1 d0' d1' ow3 hir hbw3
      go_wp2_with fail
      refine (l3Form_any (textAt ss 1) _ (by show (textAt ss 1).size ≤ _; omega)).mono ?_
      rintro x w5 ⟨⟨gv, rfl, _⟩, hb5⟩
      have d0 := cell_later hb5 d0''
      have d1 := cell_later hb5 d1''
      have ow5 := own_later ow4 hb5
      have hir5 := hir4.later hb5
      have hbw5 := bel_after hbw4 hb5
      clear t1' d0'' d1'' ow4 hir4 hbw4
      go_wp2_with fail
      refine (l1Max_any _ _ _).mono ?_
      rintro x w6 ⟨rfl, rfl⟩
      have HME : max (orNone (supR (textAt ss 0))).1 (orNone (supR (textAt ss 1))).1 = lastE ss := rfl
      rw [HME]
      clear HME
      obtain ⟨le0, le1⟩ := lastE_range ss
      by_cases hle : lastE ss ≤ 999999998
      case neg =>
        have G : Hid (scrOk ss ws bs = false) := scrOk_no4 hle
        have he : (lastE ss == 999999999) = true := by rw [beq_iff_eq]; omega
        clear hle
        go_wp2
        exact bodyPost_ret (v := .tuple #[.slice (some ⟨w.heap.size + 1, 0, none⟩) 0 0, .bool false]) (by simp [results, Tryz.results29, go_sem]) rfl ⟨⟨_, by rw [G.out], by rw [scriptR_no G.out]; exact ow5⟩, hbw5⟩
      have he : (lastE ss == 999999999) = false := beq_eq_false_iff_ne.2 (by omega)
      have PGS := l3Pages_any (.slice (some ⟨sb, so, none⟩) ss.length scp) v2 lv ss (newR ss).2 w6 (ss_of (hv1.later hbw5) HOK.out) hir5 N1.2 OM
      go_wp2_with fail
      refine PGS.mono ?_
      rintro x w7 ⟨⟨ov, rfl, hoo⟩, hb7⟩
      have hor : Disk.SR w7 ov (oldB ss) := SRo (by rw [oldB_length]; exact hoo)
      have hir7 := hir5.later hb7
      have hbw7 := bel_after hbw5 hb7
      have G : Hid (scrOk ss ws bs = true) := scrOk_yes HOK.out h30 HFB.out hle
      have HSY : Hid (supOk (lastE ss + 1) (scrK (newR ss).2 (oldB ss) bs (lastE ss + 1) bs.length).2 = true) := scrP_ok ss bs h30 hle
      have HWW : Hid (scriptR ss ws bs = (scrK (newR ss).2 (oldB ss) bs (lastE ss + 1) bs.length).1 ++ [((lastE ss + 1) % 2, supT (lastE ss + 1) (scrK (newR ss).2 (oldB ss) bs (lastE ss + 1) bs.length).2)]) := (by rw [scriptR_yes G.out]; rfl : scriptR ss ws bs = _)
      have HFL := freeL_length (newR ss).2
      have HOL := oldB_length ss
      have hl30 := N1.2
      have MU := makeU w7
      have row0 := noUsed_row w7
      clear PGS N1 d0 d1 ow5 hir5 hbw5 hb7 hb5 hb4 hb3 hoo he HFB hc0 hc1 ft0 ft1 hsr hbw1
      generalize (newR ss).2 = l at *
      generalize oldB ss = old at *
      generalize noUsed = nu at *
      obtain ⟨lo, lc, rfl, hllc, hirr⟩ := id hir7
      go_wp2
      go_loopw [16] (fun iv wr => ∃ k : Nat, k ≤ l.length ∧ iv = .int .i64 k ∧ wr.rowIs w7.heap.size 4 64 (fun i => .bool (inB (l.take k) i)) ∧ Below w7.heap.size w7 wr) (fun iv _ => l.length - (intOf iv).toNat)
      case atStart => exact ⟨0, Nat.zero_le _, rfl, row0.congr (fun i _ => by simp [inB]), bel_one _ _⟩
      case round =>
        obtain ⟨k, hk, rfl, hrow, hb⟩ := hrel
        by_cases hlt : k < l.length
        · obtain ⟨lb, lo', e, hlc⟩ := hirr k hlt
          subst e
          obtain ⟨y0, y1⟩ := OM k hlt
          obtain ⟨n, hn⟩ := Int.eq_ofNat_of_zero_le (a := l.getD k 0) (by omega)
          have R := row_in hrow hlt hn
          have hlc' := cell_later hb hlc
          rw [hn] at hlc' y1
          have q0 := hrow.cell (i := n) (by omega)
          have q1 := hrow.frozen n
          have hb2 := hb.setCell (p := ⟨w7.heap.size, n, none⟩) (Nat.le_refl _) (.bool true)
          clear hn hlc hirr OM
          go_wp2
          exact ⟨⟨k + 1, by omega, by go_num, R, hb2⟩, by simp [intOf]; omega⟩
        · obtain rfl : k = l.length := by omega
          have rowU : wr.rowIs w7.heap.size 4 64 (fun i => .bool (usedB l 0 i)) := hrow.congr (fun i _ => congrArg Value.bool (in_used l i))
          have hal := bel_one wr (.cells #[] 2)
          have owL := own_none wr w7.heap.size 2 1 hb.size
          have rowU2 := row_low rowU hal
          have hb2 := bel_after hb hal
          have f0r : 0 < (freeL l).length := by omega
          have f0 := (freeL_range l f0r).1
          clear hrow rowU hb hal MU row0
          go_wp2
          go_loopw [6, 17, 18, 19] (fun ov6 lv17 fv18 iv wr => ∃ (k f : Nat) (v6 v17 : Value), k ≤ bs.length ∧ iv = .int .i64 k ∧ fv18 = .int .i64 f ∧ 2 ≤ f ∧ (f : Int) ≤ (freeL l).getD (scrK l old bs (lastE ss + 1) k).1.length 0 ∧ v6 = ov6 ∧ v17 = lv17 ∧ Disk.NO w7.heap.size wr v6 (scrK l old bs (lastE ss + 1) k).1 ∧ wr.ownsRow w7.heap.size 2 1 v17 k (icells (scrK l old bs (lastE ss + 1) k).2) ∧ wr.rowIs w7.heap.size 4 64 (fun i => .bool (usedB l (scrK l old bs (lastE ss + 1) k).1.length i)) ∧ Below w7.heap.size w7 wr) (fun _ _ _ iv _ => bs.length - (intOf iv).toNat)
          case atStart => exact ⟨0, 2, _, _, Nat.zero_le _, rfl, rfl, Nat.le_refl _, f0, rfl, rfl, .inl ⟨_, rfl, rfl⟩, owL, rowU2, hb2⟩
          case round =>
            obtain ⟨k, f, v6, v17, hk, rfl, rfl, hf2, hfy, rfl, rfl, no6, ow17, rowV, hbl⟩ := hrel
            obtain ⟨n1, n2⟩ := scr_len l old bs (lastE ss + 1) k
            have hszl := hbl.size
            by_cases hlt : k < bs.length
            · obtain ⟨b6, o6, e6, hbc⟩ := hbr k hlt
              subst e6
              have hbc' := cell_later (bel_after hbw7 hbl) hbc
              obtain ⟨oo, oc, rfl, horr⟩ := id hor
              have hki : (k : Int) < (bs.length : Int) := by omega
              have KS := @scr_same l old bs (lastE ss + 1) k
              have KN := @scr_new l old bs (lastE ss + 1) k
              cases hsm : sameB old bs k
              · have NE : k < old.length → ¬ old.getD k ByteArray.empty = bs.getD k ByteArray.empty := fun h e => by
                  unfold sameB at hsm
                  rw [decide_eq_true h, decide_eq_true e] at hsm
                  cases hsm
                have GK := KN hsm
                have OC : ∀ h : k < old.length, ∃ b o, oo = some ⟨b, o, none⟩ ∧ wr.cell? ⟨b, o + k, none⟩ = some (.string (old.getD k ByteArray.empty)) := fun h => by
                  obtain ⟨b8, o8, e8, hoc⟩ := horr k h
                  exact ⟨b8, o8, e8, cell_later hbl hoc⟩
                have hj : (scrK l old bs (lastE ss + 1) k).1.length < (freeL l).length := by omega
                have UL := fun f => @used_less l (scrK l old bs (lastE ss + 1) k).1.length f hj
                have UH := fun f => @used_here l (scrK l old bs (lastE ss + 1) k).1.length f hj
                have RU := fun (W : World) n (h : W.rowIs w7.heap.size 4 64 _) => @row_used W w7.heap.size l (scrK l old bs (lastE ss + 1) k).1.length n h hj
                obtain ⟨j0, j1, _⟩ := freeL_range l hj
                have jn : (scrK l old bs (lastE ss + 1) (k + 1)).1.length < (freeL l).length := by have := (scr_len l old bs (lastE ss + 1) (k + 1)).2; omega
                have JL : (freeL l).getD (scrK l old bs (lastE ss + 1) k).1.length 0 < (freeL l).getD ((scrK l old bs (lastE ss + 1) k).1.length + 1) 0 := freeL_lt l (Nat.lt_succ_self _) (by rw [GK, List.length_append, List.length_singleton] at jn; exact jn)
                clear jn
                generalize scrK l old bs (lastE ss + 1) k = p at *
                obtain ⟨pw, pl⟩ := p
                simp only at GK n1 n2 hfy no6 ow17 rowV UL UH RU j0 j1 JL ⊢
                obtain ⟨yn, hyn⟩ := Int.eq_ofNat_of_zero_le (a := (freeL l).getD pw.length 0) (by omega)
                have JL' : Hid ((yn : Int) < (freeL l).getD (pw.length + 1) 0) := (by rw [hyn] at JL; exact JL : (yn : Int) < (freeL l).getD (pw.length + 1) 0)
                rw [hyn] at hfy j0 j1 GK
                have HUL : Hid (∀ f : Nat, 2 ≤ f → f < yn → usedB l pw.length f = true) := (fun f h2 h => UL f h2 (by rw [hyn]; omega) : ∀ f : Nat, 2 ≤ f → f < yn → usedB l pw.length f = true)
                have HUH : Hid (usedB l pw.length yn = false) := UH yn hyn
                have HRU : Hid (∀ W : World, W.rowIs w7.heap.size 4 64 (fun i => .bool (usedB l pw.length i)) → (W.setCell ⟨w7.heap.size, yn, none⟩ (.bool true)).rowIs w7.heap.size 4 64 (fun i => .bool (usedB l (pw.length + 1) i))) := (fun W h => RU W yn h hyn : ∀ W : World, W.rowIs w7.heap.size 4 64 (fun i => .bool (usedB l pw.length i)) → (W.setCell ⟨w7.heap.size, yn, none⟩ (.bool true)).rowIs w7.heap.size 4 64 (fun i => .bool (usedB l (pw.length + 1) i)))
                have PK := fun bd W => packPage_any (k : Int) (lastE ss + 1) bd W
                generalize old.getD k ByteArray.empty = od at *
                generalize bs.getD k ByteArray.empty = bd at *
                have HPK := PK bd
                have HGK : Hid (scrK l old bs (lastE ss + 1) (k + 1) = (pw ++ [((yn : Int), packT k (lastE ss + 1) bd)], pl ++ [(yn : Int)])) := GK
                clear GK KS KN hsm horr hbr UL UH RU JL hyn n1 HOL PK hirr OM hj
                generalize packT (k : Int) (lastE ss + 1) bd = tx at *
                by_cases hko : k < old.length
                · have ne := str_bne (NE hko)
                  have hko' : decide ((k : Int) < (old.length : Int)) = true := by simp; omega
                  have hkoi : (k : Int) < (old.length : Int) := by omega
                  obtain ⟨b8, o8, e8, hoc'⟩ := OC hko
                  subst e8
                  clear NE OC
                  go_wp2
                  go_quiet (fail)
                  go_wp2
                  go_loopw [18] (fun fv wr2 => ∃ f' : Nat, fv = .int .i64 f' ∧ 2 ≤ f' ∧ f' ≤ yn ∧ Disk.NO w7.heap.size wr2 v6 pw ∧ wr2.ownsRow w7.heap.size 2 1 v17 k (icells pl) ∧ wr2.rowIs w7.heap.size 4 64 (fun i => .bool (usedB l pw.length i)) ∧ Below w7.heap.size w7 wr2) (fun fv _ => yn - (intOf fv).toNat)
                  case atStart => exact ⟨f, rfl, hf2, by omega, no6.later (below_drewN (Below.refl _ _) _), own_later ow17 (below_drewN (Below.refl _ _) _), row_low rowV (below_drewN (Below.refl _ _) _), bel_after hbl (below_drewN (Below.refl _ _) _)⟩
                  case round =>
                    obtain ⟨f', rfl, g2, gy, no6, ow17, rowV, hbl⟩ := hrel
                    by_cases hly : f' < yn
                    · have q : wr.cell? ⟨w7.heap.size, f', none⟩ = some (.bool true) := by
                        rw [rowV.cell (by omega)]
                        show some (Value.bool (usedB l pw.length f')) = _
                        rw [HUL.out f' g2 hly]
                      have hfi : (f' : Int) < 64 := by omega
                      go_wp2
                      exact ⟨⟨f' + 1, by go_num, by omega, by omega, no6, ow17, rowV, hbl⟩, by simp [intOf]; omega⟩
                    · obtain rfl : f' = yn := by omega
                      have q : wr.cell? ⟨w7.heap.size, f', none⟩ = some (.bool false) := by
                        rw [rowV.cell (by omega)]
                        show some (Value.bool (usedB l pw.length f')) = _
                        rw [HUH.out]
                      have fz := rowV.frozen f'
                      have hfi : (f' : Int) < 64 := by omega
                      have rowS := HRU.out wr rowV
                      have noS := no_set (i := f') rowV no6 (by decide) (.bool true)
                      have owS := own_set (i := f') rowV ow17 (by decide) (.bool true)
                      have hblS := hbl.setCell (p := ⟨w7.heap.size, f', none⟩) (Nat.le_refl _) (.bool true)
                      have hszS := hbl.size
                      have hA1 := bel_one (wr.setCell ⟨w7.heap.size, f', none⟩ (.bool true)) (.cells #[.int .i64 (f' : Int)] 2)
                      have rowA := row_low rowS hA1
                      have noA := noS.later hA1
                      have owA := own_later owS hA1
                      have hblA := bel_after hblS hA1
                      have hcS : ((wr.setCell ⟨w7.heap.size, f', none⟩ (.bool true)).alloc (.cells #[.int .i64 (f' : Int)] 2)).cell? ⟨wr.heap.size, 0, none⟩ = some (.int .i64 (f' : Int)) := Disk.cell_new _ _ 2 _ (by simp) 0 _ rfl
                      have hci : ∀ W : World, (W.alloc (.cells #[.int .i64 (f' : Int)] 2)).cell? ⟨W.heap.size, 0, none⟩ = some (.int .i64 (f' : Int)) := fun W => by simp
                      have hcw0 : ∀ W : World, (W.alloc (.cells #[.int .i64 (f' : Int), .string tx] 48)).cell? ⟨W.heap.size, 0, none⟩ = some (.int .i64 (f' : Int)) := fun W => by simp
                      have hcw1 : ∀ W : World, (W.alloc (.cells #[.int .i64 (f' : Int), .string tx] 48)).cell? ⟨W.heap.size, 1, none⟩ = some (.string tx) := fun W => by simp
                      clear rowV no6 ow17 hbl rowS noS owS
                      go_wp2_with (at_builtin; refine app_int _ rfl _ _ rfl w7.heap.size _ k _ rfl owA _ 1 (f' : Int) rfl hcS (by omega) (by simp; omega) ?_; intro v5 wB own5 g5; have gwB := own_grown hblA owA g5 (by simp; omega); have noB := no_keep noA owA (by decide) g5; have rowB := row_keep rowA owA (by decide) g5; have bcB := cell_later (bel_after hbw7 gwB) hbc)
                      refine (HPK _).mono ?_
                      rintro x w9 ⟨rfl, hb9⟩
                      have hA2 := bel_one w9 (.cells #[.int .i64 (f' : Int), .string tx] 48)
                      have noC := (noB.later hb9).later hA2
                      have rowC := row_low (row_low rowB hb9) hA2
                      have owC := own_later (own_later own5 hb9) hA2
                      have hblC := bel_after (bel_after gwB hb9) hA2
                      have hszC : w7.heap.size ≤ w9.heap.size := (bel_after gwB hb9).size
                      clear noB rowB own5 hb9 g5 noA rowA owA hblA hA1 bcB
                      go_wp2_with (at_builtin; refine Disk.wpList_one rfl _ _ rfl w7.heap.size _ _ pw ((f' : Int), tx) rfl rfl noC (hcw0 _) (hcw1 _) (by omega) (by simp; omega) ?_; intro ao an ac wD noD g6; have rowD := row_keepO rowC noC (by decide) g6; have owD := own_keepO owC noC (by decide) g6; have hblD := grown_bel hblC g6 (by simp; omega) (fun b e => (noC.row b e).1))
                      go_roundw
                      case rel => exact ⟨k + 1, f', _, _, by omega, by go_num, rfl, by omega, by rw [HGK.out, List.length_append, List.length_singleton]; exact Int.le_of_lt JL'.out, rfl, rfl, by rw [HGK.out]; exact noD, by rw [HGK.out]; unfold icells; rw [List.map_append]; exact owD, by rw [HGK.out, List.length_append, List.length_singleton]; exact rowD, hblD⟩
                      case measure => simp [intOf]; omega
                · have hko' : decide ((k : Int) < (old.length : Int)) = false := by simp; omega
                  clear NE OC
                  go_wp2
                  go_quiet (fail)
                  go_wp2
                  go_loopw [18] (fun fv wr2 => ∃ f' : Nat, fv = .int .i64 f' ∧ 2 ≤ f' ∧ f' ≤ yn ∧ Disk.NO w7.heap.size wr2 v6 pw ∧ wr2.ownsRow w7.heap.size 2 1 v17 k (icells pl) ∧ wr2.rowIs w7.heap.size 4 64 (fun i => .bool (usedB l pw.length i)) ∧ Below w7.heap.size w7 wr2) (fun fv _ => yn - (intOf fv).toNat)
                  case atStart => exact ⟨f, rfl, hf2, by omega, no6.later (below_drewN (Below.refl _ _) _), own_later ow17 (below_drewN (Below.refl _ _) _), row_low rowV (below_drewN (Below.refl _ _) _), bel_after hbl (below_drewN (Below.refl _ _) _)⟩
                  case round =>
                    obtain ⟨f', rfl, g2, gy, no6, ow17, rowV, hbl⟩ := hrel
                    by_cases hly : f' < yn
                    · have q : wr.cell? ⟨w7.heap.size, f', none⟩ = some (.bool true) := by
                        rw [rowV.cell (by omega)]
                        show some (Value.bool (usedB l pw.length f')) = _
                        rw [HUL.out f' g2 hly]
                      have hfi : (f' : Int) < 64 := by omega
                      go_wp2
                      exact ⟨⟨f' + 1, by go_num, by omega, by omega, no6, ow17, rowV, hbl⟩, by simp [intOf]; omega⟩
                    · obtain rfl : f' = yn := by omega
                      have q : wr.cell? ⟨w7.heap.size, f', none⟩ = some (.bool false) := by
                        rw [rowV.cell (by omega)]
                        show some (Value.bool (usedB l pw.length f')) = _
                        rw [HUH.out]
                      have fz := rowV.frozen f'
                      have hfi : (f' : Int) < 64 := by omega
                      have rowS := HRU.out wr rowV
                      have noS := no_set (i := f') rowV no6 (by decide) (.bool true)
                      have owS := own_set (i := f') rowV ow17 (by decide) (.bool true)
                      have hblS := hbl.setCell (p := ⟨w7.heap.size, f', none⟩) (Nat.le_refl _) (.bool true)
                      have hszS := hbl.size
                      have hA1 := bel_one (wr.setCell ⟨w7.heap.size, f', none⟩ (.bool true)) (.cells #[.int .i64 (f' : Int)] 2)
                      have rowA := row_low rowS hA1
                      have noA := noS.later hA1
                      have owA := own_later owS hA1
                      have hblA := bel_after hblS hA1
                      have hcS : ((wr.setCell ⟨w7.heap.size, f', none⟩ (.bool true)).alloc (.cells #[.int .i64 (f' : Int)] 2)).cell? ⟨wr.heap.size, 0, none⟩ = some (.int .i64 (f' : Int)) := Disk.cell_new _ _ 2 _ (by simp) 0 _ rfl
                      have hci : ∀ W : World, (W.alloc (.cells #[.int .i64 (f' : Int)] 2)).cell? ⟨W.heap.size, 0, none⟩ = some (.int .i64 (f' : Int)) := fun W => by simp
                      have hcw0 : ∀ W : World, (W.alloc (.cells #[.int .i64 (f' : Int), .string tx] 48)).cell? ⟨W.heap.size, 0, none⟩ = some (.int .i64 (f' : Int)) := fun W => by simp
                      have hcw1 : ∀ W : World, (W.alloc (.cells #[.int .i64 (f' : Int), .string tx] 48)).cell? ⟨W.heap.size, 1, none⟩ = some (.string tx) := fun W => by simp
                      clear rowV no6 ow17 hbl rowS noS owS
                      go_wp2_with (at_builtin; refine app_int _ rfl _ _ rfl w7.heap.size _ k _ rfl owA _ 1 (f' : Int) rfl hcS (by omega) (by simp; omega) ?_; intro v5 wB own5 g5; have gwB := own_grown hblA owA g5 (by simp; omega); have noB := no_keep noA owA (by decide) g5; have rowB := row_keep rowA owA (by decide) g5; have bcB := cell_later (bel_after hbw7 gwB) hbc)
                      refine (HPK _).mono ?_
                      rintro x w9 ⟨rfl, hb9⟩
                      have hA2 := bel_one w9 (.cells #[.int .i64 (f' : Int), .string tx] 48)
                      have noC := (noB.later hb9).later hA2
                      have rowC := row_low (row_low rowB hb9) hA2
                      have owC := own_later (own_later own5 hb9) hA2
                      have hblC := bel_after (bel_after gwB hb9) hA2
                      have hszC : w7.heap.size ≤ w9.heap.size := (bel_after gwB hb9).size
                      clear noB rowB own5 hb9 g5 noA rowA owA hblA hA1 bcB
                      go_wp2_with (at_builtin; refine Disk.wpList_one rfl _ _ rfl w7.heap.size _ _ pw ((f' : Int), tx) rfl rfl noC (hcw0 _) (hcw1 _) (by omega) (by simp; omega) ?_; intro ao an ac wD noD g6; have rowD := row_keepO rowC noC (by decide) g6; have owD := own_keepO owC noC (by decide) g6; have hblD := grown_bel hblC g6 (by simp; omega) (fun b e => (noC.row b e).1))
                      go_roundw
                      case rel => exact ⟨k + 1, f', _, _, by omega, by go_num, rfl, by omega, by rw [HGK.out, List.length_append, List.length_singleton]; exact Int.le_of_lt JL'.out, rfl, rfl, by rw [HGK.out]; exact noD, by rw [HGK.out]; unfold icells; rw [List.map_append]; exact owD, by rw [HGK.out, List.length_append, List.length_singleton]; exact rowD, hblD⟩
                      case measure => simp [intOf]; omega
              · have GK := KS hsm
                have hko : k < old.length := by
                  unfold sameB at hsm
                  simp only [Bool.and_eq_true, decide_eq_true_eq] at hsm
                  exact hsm.1
                have hkeq : old.getD k ByteArray.empty = bs.getD k ByteArray.empty := by
                  unfold sameB at hsm
                  simp only [Bool.and_eq_true, decide_eq_true_eq] at hsm
                  exact hsm.2
                obtain ⟨b8, o8, e8, hoc⟩ := horr k hko
                subst e8
                have hoc' := cell_later hbl hoc
                rw [hkeq] at hoc'
                have hko' : decide ((k : Int) < (old.length : Int)) = true := by simp; omega
                have hkoi : (k : Int) < (old.length : Int) := by omega
                obtain ⟨b9, o9, e9, hic⟩ := hirr k (by omega)
                subst e9
                have hic' := cell_later hbl hic
                have hkli : (k : Int) < (l.length : Int) := by omega
                generalize scrK l old bs (lastE ss + 1) k = p at *
                obtain ⟨pw, pl⟩ := p
                simp only at GK n1 n2 hfy no6 ow17 rowV ⊢
                have HGK : Hid (scrK l old bs (lastE ss + 1) (k + 1) = (pw, pl ++ [l.getD k 0])) := GK
                clear GK KS KN hsm hkeq hoc hic HOL n1 horr hirr hbr OM
                generalize l.getD k 0 = y at *
                generalize bs.getD k ByteArray.empty = bd at *
                go_wp2
                go_quiet (fail)
                have hD := fun n => below_drewN (Below.refl wr.heap.size wr) n
                have hA := fun n => bel_one (wr.drewN n) (.cells #[.int .i64 y] 2)
                have noA := fun n => (no6.later (hD n)).later (hA n)
                have owA := fun n => own_later (own_later ow17 (hD n)) (hA n)
                have rowA := fun n => row_low (row_low rowV (hD n)) (hA n)
                have hblA := fun n => bel_after (bel_after hbl (hD n)) (hA n)
                have hci : ∀ W : World, (W.alloc (.cells #[.int .i64 y] 2)).cell? ⟨W.heap.size, 0, none⟩ = some (.int .i64 y) := fun W => by simp
                clear no6 ow17 rowV
                go_wp2_with (at_builtin; refine app_int _ rfl _ _ rfl w7.heap.size _ k _ rfl (owA _) _ 1 y rfl (hci _) (by omega) (by simp; omega) ?_; intro v5 wB own5 g5; have gwB := own_grown (hblA _) (owA _) g5 (by simp; omega); have noB := no_keep (noA _) (owA _) (by decide) g5; have rowB := row_keep (rowA _) (owA _) (by decide) g5)
                go_roundw
                case rel => exact ⟨k + 1, f, _, _, by omega, by go_num, rfl, hf2, by rw [HGK.out]; exact hfy, rfl, rfl, by rw [HGK.out]; exact noB, by rw [HGK.out]; unfold icells; rw [List.map_append]; exact own5, by rw [HGK.out]; exact rowB, gwB⟩
                case measure => simp [intOf]; omega
            · obtain rfl : k = bs.length := by omega
              have HW2 := HWW.out
              have HY2 := HSY.out
              generalize scrK l old bs (lastE ss + 1) bs.length = p at *
              obtain ⟨pw, pl⟩ := p
              simp only at HW2 HY2 n1 n2 hfy no6 ow17 rowV ⊢
              have HW3 : Hid (scriptR ss ws bs = pw ++ [((lastE ss + 1) % 2, supT (lastE ss + 1) pl)]) := HW2
              have SU := specSuper_any (lastE ss + 1) v17 pl wr (IR_of_owns (by rw [n1]; exact ow17)) (by omega)
              rw [HY2] at SU
              clear HW2 HWW HSY HY2 n1 rowV ow17
              generalize supT (lastE ss + 1) pl = tx at *
              go_wp2_with fail
              refine SU.mono ?_
              rintro x w9 ⟨rfl, hb9⟩
              clear SU
              have hA2 := bel_one w9 (.cells #[.int .i64 ((lastE ss + 1) % 2), .string tx] 48)
              have noC := (no6.later hb9).later hA2
              have hblC := bel_after (bel_after hbl hb9) hA2
              have hszC : w7.heap.size ≤ w9.heap.size := (bel_after hbl hb9).size
              have hsz7 := hbw7.size
              have hcw0 : ∀ W : World, (W.alloc (.cells #[.int .i64 ((lastE ss + 1) % 2), .string tx] 48)).cell? ⟨W.heap.size, 0, none⟩ = some (.int .i64 ((lastE ss + 1) % 2)) := fun W => by simp
              have hcw1 : ∀ W : World, (W.alloc (.cells #[.int .i64 ((lastE ss + 1) % 2), .string tx] 48)).cell? ⟨W.heap.size, 1, none⟩ = some (.string tx) := fun W => by simp
              go_wp2_with (at_builtin; refine Disk.wpList_one rfl _ _ rfl w7.heap.size _ _ pw ((lastE ss + 1) % 2, tx) rfl rfl noC (hcw0 _) (hcw1 _) (by omega) (by simp; omega) ?_; intro ao an ac wD noD g6; have hblD := grown_bel hblC g6 (by simp; omega) (fun b e => (noC.row b e).1))
              exact bodyPost_ret (v := .tuple #[.slice ao an ac, .bool true]) (by simp [results, Tryz.results29, go_sem]) rfl ⟨⟨_, by rw [G.out], by rw [HW3.out]; exact own_mono (no_own noD) hsz7⟩, bel_after hbw7 hblD⟩

end Go.Proofs.YtjclpbaiiklhcaaGreatDoor
