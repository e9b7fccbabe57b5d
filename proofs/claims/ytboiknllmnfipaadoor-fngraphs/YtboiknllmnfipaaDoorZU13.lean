
import Derived.Test.YtboiknllmnfipaaDoorZU5
import Derived.Test.YtboiknllmnfipaaDoorZU12
import Derived.Test.YtboiknllmnfipaaDoorZU4
import Derived.BigQuiet
/- markHeap, heldHeap and NewHeap. -/
namespace Go.Proofs.YtboiknllmnfipaaDoor
open Go.RowKit

/-- w' is w with new blocks, and with writes to three rows alone. -/
structure Thr (w w' : World) (r1 r2 r3 : Option Nat) : Prop where
  os : w'.os = w.os
  tape : w'.tape = w.tape
  output : w'.output = w.output
  size : w.heap.size ≤ w'.heap.size
  block : ∀ k, k < w.heap.size → some k ≠ r1 → some k ≠ r2 → some k ≠ r3 → w'.heap[k]? = w.heap[k]?
theorem Thr.below {w w' : World} {r1 r2 r3 : Option Nat} {B : Nat} (h : Thr w w' r1 r2 r3) (hB : B ≤ w.heap.size) (h1 : ∀ k, r1 = some k → B ≤ k) (h2 : ∀ k, r2 = some k → B ≤ k) (h3 : ∀ k, r3 = some k → B ≤ k) : Below B w w' :=
  ⟨h.os, h.tape, h.output, h.size, fun k hk => h.block k (by omega) (fun e => by have := h1 k e.symm; omega) (fun e => by have := h2 k e.symm; omega) (fun e => by have := h3 k e.symm; omega)⟩
theorem apart {w : World} {t s n m : Nat} {v u : Value} (d : ∀ b, Disk.rowOf v n = some b → Disk.rowOf u m ≠ some b) (hu : Disk.OS w t s u m) : m = 0 ∨ u.ownBlock ≠ Disk.rowOf v n := by
  by_cases hm : m = 0
  · exact .inl hm
  · refine .inr fun e => ?_
    obtain ⟨ao, cap, rfl, h⟩ := hu
    obtain ⟨b, N, f, rfl, _, _⟩ := h.resolve_left hm
    have e1 : Disk.rowOf v n = some b := by rw [← e]; rfl
    exact d b e1 (by unfold Disk.rowOf; rw [if_neg hm]; rfl)
def newW : List Int := List.replicate 3200 0
def newH : Hp := ⟨newW, [], 0, 2000, 2600, false, 1, []⟩
theorem makeW (w : World) : (Instr.makeSlice 24 (.int .i64 3200) (.int .i64 3200)).run Tryd.prog w = .ok (.slice (some ⟨w.heap.size, 0, none⟩) 3200 3200) (w.alloc (.cells (madeCells #[.int .i64 0] 3200) 2)) := make28 3200 (by omega) w
end Go.Proofs.YtboiknllmnfipaaDoor

/- Where each object goes, in the model: l10Moves. -/
namespace Go.Proofs.YtboiknllmnfipaaDoor
open Go.RowKit

theorem went_ri (w : World) : RI (w.alloc (.cells (madeCells #[.int .i64 0] 3200) 2)) w.heap.size (ints went0) 3200 := by
  have e : ints went0 = List.replicate 3200 (0 : Int) := by
    unfold ints went0
    rw [List.map_replicate]
    rfl
  rw [e]
  exact made_ri w 3200
theorem ints_set (s : List Nat) (a x : Nat) : ints (s.set a x) = (ints s).set a (x : Int) := by
  unfold ints
  rw [List.map_set]

/-- What l10Moves answers: where each object goes, and where the last one ends. -/
def MvOut (h : Hp) (l : List Nat) (B : Nat) (e : Ending) (w' : World) : Prop := ∃ g i, e = .returned (.tuple #[.slice (some ⟨g, 0, none⟩) 3200 3200, .int .i64 ((gtS h.words (rcS h i).2 l l.length).2 : Nat)]) ∧ B ≤ g ∧ i = (rcS h i).1.length ∧ GT h.words l (gtS h.words (rcS h i).2 l l.length) l.length ∧ RI w' g (ints (gtS h.words (rcS h i).2 l l.length).1) 3200

set_option maxRecDepth 100000 in
set_option maxHeartbeats 3200000 in
theorem l10Moves_any (v : Value) (h : Hp) (l : List Nat) (R : RightAt h l) (w : World) (hv : HR w v h) :
    Calls Tryd.prog 44 #[v] w fun e w' => MvOut h l w.heap.size e w' ∧ Below w.heap.size w w' := by
  obtain ⟨ok, ob⟩ := c_yes R
  obtain ⟨v1, v2, v3, rfl, i1, i2, i3⟩ := id hv
  have HL : Hid (h.words.length = 3200) := R.1.1
  obtain ⟨b, o, c1, rfl, hc1, hW⟩ := i1.ws (by have := R.1.1; omega)
  rw [R.1.1] at hc1 hv ⊢
  have hb0 := bel_one w (.cells #[.slice (some ⟨b, o, none⟩) 3200 c1, v2, .int .i64 h.old, .int .i64 h.eden, .int .i64 h.surv, .bool h.flip, .int .i64 h.hash, v3] 45)
  have X0 := Bx.new w (.slice (some ⟨b, o, none⟩) 3200 c1) v2 v3 h 45
  have C := l10Reached_any _ h l R _ (hv.later hb0)
  have A := fun W (hb : Below w.heap.size w W) => all_c _ h W (hv.later hb) ok
  rw [ob] at A
  have ls := R.1.short
  have hmk := makeW
  clear i1 i2 i3 hv ok ob
  go_enter Tryd.func44, Tryd.ntmps44
  go_wp2_with fail
  refine C.mono ?_
  rintro e w1 ⟨⟨gS, ix, rfl, gS0, ei, sl, SN⟩, hb1⟩
  have ei' : Hid (ix = (rcS h ix).1.length) := ei
  clear ei C
  generalize hsn : (rcS h ix).2 = sn at *
  have hbw1 := bel_after hb0 hb1
  obtain ⟨k0, k1, k2, k3, k4, k5, k6, k7⟩ := X0.later hb1
  go_wp2_with fail
  refine (A w1 hbw1).mono ?_
  rintro e w2 ⟨⟨lv, rfl, IL0⟩, hb2⟩
  clear A
  have hbw2 := bel_after hbw1 hb2
  have y0 := cell_later hb2 k0
  have SN2 := SN.of_block (hb2.block _ SN.lt)
  have hW2 := hW.later hbw2
  obtain ⟨la, lc, rfl, hlc⟩ := intsI IL0
  have ltS : gS < w2.heap.size := SN2.lt
  have sw : w.heap.size < w2.heap.size := World.block_lt_of_cell? _ _ y0
  clear k0 k1 k2 k3 k4 k5 k6 k7 X0 SN hb1 hb2 IL0 hW hbw1 hb0
  go_wp2
  go_loopw [7, 8] (fun av iv wr => ∃ k : Nat, k ≤ l.length ∧ iv = .int .i64 k ∧ av = .int .i64 ((gtS h.words sn l k).2 : Nat) ∧ GT h.words l (gtS h.words sn l k) k ∧ RI wr w2.heap.size (ints (gtS h.words sn l k).1) 3200 ∧ Below w2.heap.size w2 wr) (fun _ iv _ => l.length - (intOf iv).toNat)
  case atStart => exact ⟨0, Nat.zero_le _, rfl, rfl, gt_start _ _ _, went_ri w2, bel_one _ _⟩
  case round =>
    obtain ⟨k, hk, rfl, rfl, G, RT, hb⟩ := hrel
    clear hmk
    by_cases hlt : k < l.length
    · have E : gtS h.words sn l (k + 1) = gt1 h.words sn (gtS h.words sn l k) (l.getD k 0) := rfl
      have G' := gt_step R sn G hlt
      rw [← E] at G'
      unfold gt1 at E
      obtain ⟨lb, lo, rfl, cl⟩ := hlc k hlt
      have ha := get_mem l k hlt
      have cl2 := cell_later hb cl
      have ltl : lb < w2.heap.size := World.block_lt_of_cell? _ _ cl
      generalize l.getD k 0 = a at *
      generalize gtS h.words sn l k = s at *
      obtain ⟨o1, o2, o3⟩ := R.1.obj ha
      have cs := cell_later hb (SN2.cell (i := a) (by omega))
      have sz := size_of o3
      obtain ⟨m, hm⟩ := Int.eq_ofNat_of_zero_le sz.1
      have m60 : m ≤ 60 := by omega
      have ca := cell_later hb (hW2 a (by rw [HL.out]; omega))
      rw [hm] at ca
      have bxx := cell_later hb y0
      have lta : (a : Int) < 3200 := by omega
      have top := G.top
      have hb64 : s.2 ≤ 204800 := by omega
      have ltk : (k : Int) < (l.length : Int) := by omega
      have hmn : (gw h.words a).toNat = m := by rw [hm]; rfl
      rw [hmn] at E
      have lenT : (ints s.1).length = 3200 := by rw [ints_length]; exact G.len
      have RS := RT.set a ((s.2 + 1 : Nat) : Int)
      rw [← ints_set] at RS
      have fz := RT.frozen a
      have ct := RT.cell (i := a) (by rw [lenT]; omega)
      have hbS := hb.setCell (p := ⟨w2.heap.size, a, none⟩) (Nat.le_refl _) (.int .i64 ((s.2 + 1 : Nat) : Int))
      have bl : b < w2.heap.size := World.block_lt_of_cell? _ _ (hW2 0 (by rw [HL.out]; omega))
      have n1 : ¬ b = w2.heap.size := by omega
      have n2 : ¬ lb = w2.heap.size := by omega
      have n3 : ¬ w.heap.size = w2.heap.size := by omega
      cases hs : sn.getD a false
      · rw [if_neg (by rw [hs]; simp)] at E
        rw [hs] at cs
        have E' : Hid (gtS h.words sn l (k + 1) = s) := E
        clear E hm hmn sz o3 RS ct lenT hbS ha hW2 hlc SN2 R hsn sl hs
        go_wp2
        exact ⟨⟨k + 1, by omega, by go_num, by rw [E'.out], G', by rw [E'.out]; exact RT, hb⟩, by simp [intOf]; omega⟩
      · rw [if_pos hs] at E
        rw [hs] at cs
        have E' : Hid (gtS h.words sn l (k + 1) = (s.1.set a (s.2 + 1), s.2 + 4 + m)) := E
        have RS' : Hid (RI (wr.setCell ⟨w2.heap.size, a, none⟩ (.int .i64 ((s.2 : Int) + 1))) w2.heap.size (ints (s.1.set a (s.2 + 1))) 3200) := RS
        have hbS' : Hid (Below w2.heap.size w2 (wr.setCell ⟨w2.heap.size, a, none⟩ (.int .i64 ((s.2 : Int) + 1)))) := hbS
        clear E hm hmn sz o3 RS lenT hbS ha hW2 hlc SN2 R hsn sl RT hb G hs
        go_wp2
        go_quiet (fail)
        go_wp2
        exact ⟨⟨k + 1, by omega, by go_num, by rw [E'.out]; go_num, G', by rw [E'.out]; exact RS'.out.later (below_drewN (Below.refl _ _) _), below_drewN hbS'.out _⟩, by simp [intOf]; omega⟩
    · obtain rfl : k = l.length := by omega
      clear SN2 hW2 hlc sl R
      subst hsn
      have hbb := hbw2.trans (hb.mono hbw2.size)
      go_wp2
      exact bodyPost_ret (v := .tuple #[.slice (some ⟨w2.heap.size, 0, none⟩) 3200 3200, .int .i64 ((gtS h.words (rcS h ix).2 l l.length).2 : Nat)]) (by simp [results, Tryd.results44, go_sem]) rfl ⟨⟨_, ix, rfl, by omega, ei'.out, G, RT⟩, hbb⟩

end Go.Proofs.YtboiknllmnfipaaDoor
