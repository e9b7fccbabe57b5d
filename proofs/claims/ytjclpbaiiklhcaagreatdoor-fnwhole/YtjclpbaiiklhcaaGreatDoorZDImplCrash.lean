/- Crash of the program. -/
import Derived.Test.YtjclpbaiiklhcaaGreatDoorZDCrash
import Derived.Test.YtjclpbaiiklhcaaGreatDoorZDImplHold
import Derived.Test.YtjclpbaiiklhcaaGreatDoorZV20
namespace Go.Proofs.YtjclpbaiiklhcaaGreatDoor.Disk
open Go.RowKit Go.Shelf Go.Deep

attribute [local go_sem] Oper.semAt_some

def crashP (bs : List Bool) (tn : Int) (ss : List ByteArray) (pre : List OkW1) : List ByteArray := pre.foldl (fun t x => stepC bs tn t x.1) ss
theorem crashP_snoc (bs : List Bool) (tn : Int) (ss : List ByteArray) (pre : List OkW1) (x : OkW1) : crashP bs tn ss (pre ++ [x]) = stepC bs tn (crashP bs tn ss pre) x.1 := by simp [crashP]
theorem crashP_length (bs : List Bool) (tn : Int) (ss : List ByteArray) (pre : List OkW1) : (crashP bs tn ss pre).length = ss.length := by
  unfold crashP
  induction pre generalizing ss with
  | nil => rfl
  | cons x r ih => rw [List.foldl_cons, ih, stepC_length]
theorem crashP_size {bs : List Bool} {tn : Int} {ss : List ByteArray} (h : ∀ i, (ss.getD i ByteArray.empty).size ≤ 256) (pre : List OkW1) : ∀ i, ((crashP bs tn ss pre).getD i ByteArray.empty).size ≤ 256 := by
  unfold crashP
  induction pre generalizing ss with
  | nil => exact h
  | cons x r ih => rw [List.foldl_cons]; exact ih (stepC_size h x.2)
theorem crashP_num (bs : List Bool) (tn : Int) (ss : List ByteArray) (ws : List Wr) (k : Nat) (pre : List OkW1) (h : pre.map (·.1) = num ws k) : crashP bs tn ss pre = crashN bs tn ss ws k := by
  unfold crashP crashN
  rw [← h, List.foldl_map]

set_option maxRecDepth 100000 in
set_option maxHeartbeats 4000000 in
theorem implCrash_cap (v1 v2 vl : Value) (ss : List ByteArray) (ws : List Wr) (bs : List Bool) (tn : Int) (w : World) (hv1 : SR w v1 ss) (hv2 : WR w v2 ws) (hvl : LR w vl bs) (h1 : ss.length ≤ 10000000000000) (h2 : ws.length ≤ 10000000000000) :
    Calls Tryz.prog 39 #[.agg #[v1, v2], vl, .int .i64 tn] w fun e w' => ∃ u1 u2, e = .returned (.agg #[u1, u2]) ∧ ND w.heap.size w' u1 u2 (crashS bs tn ss ws) [] ∧ Below w.heap.size w w' ∧ CapS u1 := by
  obtain ⟨lo, lc, rfl, hl⟩ := hvl
  have hvl : LR w (.slice lo bs.length lc) bs := ⟨lo, lc, rfl, hl⟩
  have HVL : Hid (LR w (.slice lo bs.length lc) bs) := hvl
  clear hl hvl
  have hb0 : Below w.heap.size w ((((w.alloc (.cells #[v1, v2] 27)).alloc (.cells #[.slice lo bs.length lc] 41)).alloc (.cells #[.int .i64 tn] 2)).alloc (.cells #[.slice none 0 0, .slice none 0 0] 27)) := ((bel_two _ _ _).alloc (by simp; omega) _).alloc (by simp; omega) _
  refine (callsIn_wide (n := 9)).1 ?_
  refine callsIn_of_wp_marks Tryz.func39 rfl trivial ?_ rfl
  simp only [Tryz.ntmps39, List.size_toArray, List.length_cons, List.length_nil, Nat.reduceAdd, Nat.reduceSub, Array.replicate_succ, Array.replicate_zero, List.push_toArray, List.append_toArray, List.nil_append, List.cons_append]
  gi_wp2_with (fail)
  refine ⟨trivial, (callsIn_wide.2 (implDiskOk_any _ _ ss ws _ (hv1.later hb0) (hv2.later hb0) h1 h2)).mono ?_⟩
  rintro e w1 ⟨rfl, hb1⟩
  have hbw1 : Below w.heap.size w w1 := hb0.trans (hb1.mono (by simp; omega))
  have r1 : Res (w.heap.size + 1 + 1 + 1) w1 := Res.later ⟨cell_new _ _ 27 _ (by simp) 0 _ rfl, cell_new _ _ 27 _ (by simp) 1 _ rfl, frozen_new _ _ 27 _ (by simp) 0, frozen_new _ _ 27 _ (by simp) 1, by simp⟩ hb1
  have c0 : w1.cell? ⟨w.heap.size, 0, none⟩ = some v1 := cell_later hb1 (cell_later (bel_one _ _) (cell_later (bel_two _ _ _) (cell_new w #[v1, v2] 27 _ rfl 0 _ rfl)))
  have c1 : w1.cell? ⟨w.heap.size, 1, none⟩ = some v2 := cell_later hb1 (cell_later (bel_one _ _) (cell_later (bel_two _ _ _) (cell_new w #[v1, v2] 27 _ rfl 1 _ rfl)))
  have bL : Boxed w1 (w.heap.size + 1) 41 (.slice lo bs.length lc) := by
    have h := ((Boxed.new (w.alloc (.cells #[v1, v2] 27)) 41 (.slice lo bs.length lc)).alloc (.cells #[.int .i64 tn] 2)).alloc (.cells #[.slice none 0 0, .slice none 0 0] 27)
    rw [World.size_alloc] at h
    exact (hb1.block _ (by simp)).trans h
  have bN : Boxed w1 (w.heap.size + 1 + 1) 2 (.int .i64 tn) := by
    have h := (Boxed.new ((w.alloc (.cells #[v1, v2] 27)).alloc (.cells #[.slice lo bs.length lc] 41)) 2 (.int .i64 tn)).alloc (.cells #[.slice none 0 0, .slice none 0 0] 27)
    simp only [World.size_alloc] at h
    exact (hb1.block _ (by simp)).trans h
  cases hok : okD ss ws
  · have HK : Hid (okD ss ws = false) := hok
    clear hok
    have q0 := r1.1
    have q1 := r1.2.1
    have f0 := r1.2.2.1
    have f1 := r1.2.2.2.1
    have e5 := (hbw1.setCell (p := ⟨w.heap.size + 1 + 1 + 1, 0, none⟩) (by simp; omega) (.slice none 0 0)).setCell (p := ⟨w.heap.size + 1 + 1 + 1, 1, none⟩) (by simp; omega) (.slice none 0 0)
    have E6 : Hid (crashS bs tn ss ws = []) := (by unfold crashS; rw [if_neg (by rw [HK.out]; simp)] : crashS bs tn ss ws = [])
    gi_wp2
    exact ⟨.agg #[.slice none 0 0, .slice none 0 0], by simp [results, Tryz.f39, go_sem, q0, q1], _, _, rfl, by rw [E6.out]; exact nd_zero _ _, e5, ⟨_, _, _, rfl, Nat.le_refl _⟩⟩
  · have HK : Hid (okD ss ws = true) := hok
    clear hok
    obtain ⟨l64, l200, hsz, hall⟩ := okD_all HK.out
    have E6 : Hid (crashS bs tn ss ws = crashN bs tn ss ws ws.length) := (by unfold crashS; rw [if_pos HK.out] : crashS bs tn ss ws = crashN bs tn ss ws ws.length)
    have HALL : Hid (∀ k, k < ws.length → okW (ws.getD k wr0) = true) := hall
    have H64 : Hid (ss.length = 64) := l64
    have HSZ : Hid (∀ k, k < ss.length → (ss.getD k ByteArray.empty).size ≤ 256) := hsz
    have HCS : Hid (∀ (pre : List OkW1) (i : Nat), ((crashP bs tn ss pre).getD i ByteArray.empty).size ≤ 256) := crashP_size (getD_size hsz)
    have n64 : (64 : Int) ≤ (ss.length : Int) := by omega
    have n0 : 0 < ss.length := by omega
    clear hall l64 hsz
    have hv2' := hv2
    obtain ⟨bo, cbp, rfl, hu⟩ := hv2
    clear hu
    gi_wp2_with (fail)
    refine ⟨trivial, (callsIn_wide.2 (copyTexts_cap _ ss _ (hv1.later hbw1) h1 HSZ.out)).mono ?_⟩
    rintro e w2 ⟨u1, rfl, hN2, hb2, hcp2⟩
    obtain ⟨b, cap, rfl, hbb, hbz, hq1, hq2⟩ := hN2.form n0
    have HCP : Hid (CapS (.slice (some ⟨b, 0, none⟩) ss.length cap)) := hcp2
    clear hcp2
    clear hq1 hq2
    have hbw2 := bel_then hbw1 hbw1.size hb2
    have r2 := r1.later hb2
    have d1 := cell_later hb2 c1
    have bL2 := bL.kept (grown_below (row := none) hb2) (by simp)
    have bN2 := bN.kept (grown_below (row := none) hb2) (by simp)
    have hz : w.heap.size < w2.heap.size := World.block_lt_of_cell? _ _ d1
    have hz1 : w.heap.size + 1 + 1 + 1 < w2.heap.size := r2.2.2.2.2
    have hz2 : w.heap.size + 1 + 1 + 1 < w1.heap.size := r1.2.2.2.2
    clear c0 c1 hb1 r1 bL bN
    gi_wp2_with (fail)
    refine ⟨trivial, (inOrder_in Fence.wide _ trivial rfl _ _ _ _).mono ?_⟩
    rintro e w3 ⟨rfl, rfl⟩
    gi_wp2_with (fail)
    obtain ⟨W0, hW0⟩ : ∃ W0, (w2.alloc (.cells #[.slice (some ⟨b, 0, none⟩) ss.length cap] 24)).alloc (.cells #[.slice bo ws.length cbp] 25) = W0 := ⟨_, rfl⟩
    have hB0 : Below w.heap.size w W0 := by rw [← hW0]; exact (hbw2.alloc hbw2.size _).alloc (Nat.le_trans hbw2.size (by simp)) _
    have bT : Boxed W0 w2.heap.size 24 (.slice (some ⟨b, 0, none⟩) ss.length cap) := by rw [← hW0]; exact (Boxed.new w2 24 _).alloc _
    have r0 : Res (w.heap.size + 1 + 1 + 1) W0 := by rw [← hW0]; exact (r2.al _).al _
    have bL0 : Boxed W0 (w.heap.size + 1) 41 (.slice lo bs.length lc) := by rw [← hW0]; exact (bL2.alloc _).alloc _
    have bN0 : Boxed W0 (w.heap.size + 1 + 1) 2 (.int .i64 tn) := by rw [← hW0]; exact (bN2.alloc _).alloc _
    have hN0 : NS w1.heap.size W0 (.slice (some ⟨b, 0, none⟩) ss.length cap) ss := by rw [← hW0]; exact (hN2.al _).al _
    have cB : W0.cell? ⟨w2.heap.size + 1, 0, none⟩ = some (.slice bo ws.length cbp) := by
      rw [← hW0]
      exact cell_new _ #[.slice bo ws.length cbp] 25 _ (by simp) 0 _ rfl
    have hsz : W0.heap.size = w2.heap.size + 2 := by rw [← hW0]; simp
    rw [hW0]
    clear hW0 hb0 hN2 r2 d1 bL2 bN2
    refine wpIn_rangeFunc_ownH (F := Fence.wide) (n := 9) rfl (by omega) (gf := 82) (lb := #[.pointer (some ⟨w2.heap.size + 1, 0, none⟩)]) rfl trivial (enters_of Tryz.func82 (by kernel_rfl) rfl)
      (inOrderP_stops Fence.wide (9 - 1) trivial rfl (by omega) (w2.heap.size + 1) w _ ws hv2' h2 HALL.out W0 hB0 cB) belowK_t (belowK_b (by omega)) (Below.refl _ _) (fun _ => rfl)
      (fun pre W => (NS w1.heap.size W (.slice (some ⟨b, 0, none⟩) ss.length cap) (crashP bs tn ss pre) ∧ Boxed W w2.heap.size 24 (.slice (some ⟨b, 0, none⟩) ss.length cap) ∧ Res (w.heap.size + 1 + 1 + 1) W ∧ Boxed W (w.heap.size + 1) 41 (.slice lo bs.length lc) ∧ Boxed W (w.heap.size + 1 + 1) 2 (.int .i64 tn)) ∧ Below w.heap.size w W)
      (fun _ _ _ => False)
      (OwnFrom.and (fun s X Y row hs hg hr => ⟨hs.1.turned hg (fun r e => (hr r e).2), boxed_own w2.heap.size 24 (fun (_ : Unit) => Value.slice (some ⟨b, 0, none⟩) ss.length cap) () X Y row hs.2.1 hg (fun r e => (hr r e).2), hs.2.2.1.turned hg (fun r e => (hr r e).2), boxed_own (w.heap.size + 1) 41 (fun (_ : Unit) => Value.slice lo bs.length lc) () X Y row hs.2.2.2.1 hg (fun r e => (hr r e).2), boxed_own (w.heap.size + 1 + 1) 2 (fun (_ : Unit) => Value.int .i64 tn) () X Y row hs.2.2.2.2 hg (fun r e => (hr r e).2)⟩) (ownFrom_below (Nat.le_refl _) (by omega)))
      (fun _ _ _ _ _ hs _ _ => hs)
      ⟨⟨hN0, bT, r0, bL0, bN0⟩, hB0⟩
      (fun x a' W => ∃ Bx, w2.heap.size < Bx ∧ W.heap[Bx]? = some (.cells #[.int .i64 x.1.2.1, .string x.1.2.2] 48 (0, 0)) ∧ a' = { tmps := #[Value.agg #[v1, Value.slice bo ws.length cbp], Value.slice lo bs.length lc, Value.int IntKind.i64 tn, Value.pointer (some { block := w.heap.size, off := 0 }), Value.pointer (some { block := w.heap.size + 1, off := 0 }), Value.pointer (some { block := w.heap.size + 1 + 1, off := 0 }), Value.pointer (some { block := w.heap.size + 1 + 1 + 1, off := 0 }), Value.pointer (some { block := w2.heap.size, off := 0 }), .int .i64 x.1.1, Value.pointer (some ⟨Bx, 0, none⟩), Value.agg #[v1, Value.slice bo ws.length cbp], Value.bool true, Value.bool false, undef, Value.pointer (some { block := w.heap.size, off := 0 }), v1, Value.slice (some { block := b, off := 0 }) ss.length cap, Value.pointer (some { block := w.heap.size, off := 1 }), Value.slice bo ws.length cbp, Value.func (Fn.func 82) #[] #[Value.pointer (some { block := w2.heap.size + 1, off := 0 })], .int .i64 x.1.1, .agg #[.int .i64 x.1.2.1, .string x.1.2.2], undef, undef, undef, undef, undef, undef, undef, undef, undef, undef, undef, undef, undef, undef, undef, undef, undef, undef, undef, undef, undef, undef, undef, undef, undef, undef, undef, undef, undef, undef, undef, undef, undef, undef], defers := [] })
      (fun x a' _ X Y row hs hg hr => by obtain ⟨Bx, h1, h2, h3⟩ := hs; exact ⟨Bx, h1, cells_own h2 hg (fun r e => (hr r e).2), h3⟩)
      ?assign ?body ?done ?stop
    case assign =>
      rintro l pre x W K ⟨⟨hNp, bT1, r, bL1, bN1⟩, hB1⟩ hK
      dsimp only [encP, enc2]
      gi_wp2
      exact hK _ _ ((KeepsOthers.alloc _ _).from _) ((Below.refl _ W).alloc hB1.size _) ⟨⟨hNp.al _, bT1.alloc _, r.al _, bL1.alloc _, bN1.alloc _⟩, hB1.alloc hB1.size _⟩ ⟨W.heap.size, bT1.lt, World.alloc_heap_new W _, rfl⟩
    case body =>
      rintro l pre ⟨⟨i, s1, s2⟩, hokx⟩ a' W hl ⟨lr, hlr⟩ ⟨⟨hNp, bT1, r, bL1, bN1⟩, hB1⟩ ⟨Bx, hBx, bX, rfl⟩ hlt
      dsimp only at bX ⊢
      obtain ⟨x0, x63, xs⟩ := okW_range hokx
      dsimp only at x0 x63 xs
      obtain ⟨k, rfl⟩ := Int.eq_ofNat_of_zero_le x0
      have cX0 : W.cell? ⟨Bx, 0, none⟩ = some (.int .i64 k) := by simp [World.cell?, bX]
      have cX1 : W.cell? ⟨Bx, 1, none⟩ = some (.string s2) := by simp [World.cell?, bX]
      have cT := bT1.cell
      have cL := bL1.cell
      have cN := bN1.cell
      have hkn : k < ss.length := by omega
      have hmx : Tryz.prog.follows .mixedOrders = true := by kernel_rfl
      have hlen : (crashP bs tn ss pre).length = ss.length := crashP_length bs tn ss pre
      obtain ⟨b2, cap2, e2, hg1, hg2, hcell, hfrz⟩ := hNp.form (by omega)
      simp only [Value.slice.injEq, Option.some.injEq, Addr.mk.injEq, and_true] at e2
      obtain ⟨rfl, enn, rfl⟩ := e2
      clear enn
      have T1 := hcell k (by omega)
      have T2 := hfrz k
      have ho := HCS.out pre k
      have HN2 : Hid (NS w1.heap.size W (.slice (some ⟨b, 0, none⟩) ss.length cap) (crashP bs tn ss pre)) := hNp
      have HLEN : Hid ((crashP bs tn ss pre).length = ss.length) := hlen
      generalize hold : (crashP bs tn ss pre).getD k ByteArray.empty = old at *
      have HO : Hid ((crashP bs tn ss pre).getD k ByteArray.empty = old) := hold
      clear bX hcell hfrz hNp hlen hold
      by_cases hte : (i : Int) = tn
      · have te : ((i : Int) == tn) = true := by simp [hte]
        have E1 : Hid (stepC bs tn (crashP bs tn ss pre) (i, ((k : Int), s2)) = (crashP bs tn ss pre).set k (torn s2 old)) := (by
          unfold stepC
          rw [if_pos hte, Int.toNat_natCast, HO.out] : stepC bs tn (crashP bs tn ss pre) (i, ((k : Int), s2)) = (crashP bs tn ss pre).set k (torn s2 old))
        clear hte
        gi_wp2
        refine wpIn_round_held (fun W' => W'.cell? ⟨w2.heap.size, 0, none⟩ = some (.slice (some ⟨b, 0, none⟩) ss.length cap) ∧ W'.cell? ⟨Bx, 0, none⟩ = some (.int .i64 k) ∧ W'.cell? ⟨Bx, 1, none⟩ = some (.string s2)) hmx (by kernel_rfl) ⟨cT, cX0, cX1⟩ (fun hHeld => ?_)
        refine take_at 0 25 rfl rfl (by kernel_rfl) (by kernel_rfl) (by kernel_rfl) (by rfl) hHeld (fun W' hSw => (by
          obtain ⟨s1', s2', s3'⟩ := hSw
          go_simp
          with_reducible rfl)) ?_
        simp only [List.setIfInBounds_toArray, List.set_cons_zero, List.set_cons_succ]
        refine take_at 1 26 rfl rfl (by kernel_rfl) (by kernel_rfl) (by kernel_rfl) (by rfl) hHeld (fun W' hSw => (by
          obtain ⟨s1', s2', s3'⟩ := hSw
          go_simp
          with_reducible rfl)) ?_
        simp only [List.setIfInBounds_toArray, List.set_cons_zero, List.set_cons_succ]
        refine take_at 2 27 rfl rfl (by kernel_rfl) (by kernel_rfl) (by kernel_rfl) (by rfl) hHeld (fun W' hSw => (by
          obtain ⟨s1', s2', s3'⟩ := hSw
          go_simp
          with_reducible rfl)) ?_
        simp only [List.setIfInBounds_toArray, List.set_cons_zero, List.set_cons_succ]
        refine take_at 3 28 rfl rfl (by kernel_rfl) (by kernel_rfl) (by kernel_rfl) (by rfl) hHeld (fun W' hSw => (by
          obtain ⟨s1', s2', s3'⟩ := hSw
          go_simp
          with_reducible rfl)) ?_
        simp only [List.setIfInBounds_toArray, List.set_cons_zero, List.set_cons_succ]
        refine take_at 4 29 rfl rfl (by kernel_rfl) (by kernel_rfl) (by kernel_rfl) (by rfl) hHeld (fun W' hSw => (by
          obtain ⟨s1', s2', s3'⟩ := hSw
          go_simp
          with_reducible rfl)) ?_
        simp only [List.setIfInBounds_toArray, List.set_cons_zero, List.set_cons_succ]
        refine take_at 5 30 rfl rfl (by kernel_rfl) (by kernel_rfl) (by kernel_rfl) (by rfl) hHeld (fun W' hSw => (by
          obtain ⟨s1', s2', s3'⟩ := hSw
          go_simp
          with_reducible rfl)) ?_
        simp only [List.setIfInBounds_toArray, List.set_cons_zero, List.set_cons_succ]
        refine take_at 6 31 rfl rfl (by kernel_rfl) (by kernel_rfl) (by kernel_rfl) (by rfl) hHeld (fun W' hSw => (by
          obtain ⟨s1', s2', s3'⟩ := hSw
          go_simp
          with_reducible rfl)) ?_
        simp only [List.setIfInBounds_toArray, List.set_cons_zero, List.set_cons_succ]
        refine take_at 7 32 rfl rfl (by kernel_rfl) (by kernel_rfl) (by kernel_rfl) (by rfl) hHeld (fun W' hSw => (by
          obtain ⟨s1', s2', s3'⟩ := hSw
          go_simp
          with_reducible rfl)) ?_
        simp only [List.setIfInBounds_toArray, List.set_cons_zero, List.set_cons_succ]
        refine take_at 8 33 rfl rfl (by kernel_rfl) (by kernel_rfl) (by kernel_rfl) (by rfl) hHeld (fun W' hSw => (by
          obtain ⟨s1', s2', s3'⟩ := hSw
          go_simp
          with_reducible rfl)) ?_
        simp only [List.setIfInBounds_toArray, List.set_cons_zero, List.set_cons_succ]
        refine run_at 9 34 rfl rfl (by kernel_rfl) (by rfl) (w' := W.drew) (by
          go_simp
          with_reducible rfl) hHeld ?_
        simp only [List.setIfInBounds_toArray, List.set_cons_zero, List.set_cons_succ]
        refine call_at 10 35 rfl rfl (by kernel_rfl) (by rfl) (f := 65) (args := #[.string s2, .string old]) (w0 := W.drew) (by
          go_simp) ?_
        refine (tornText_any _ _ _ (by omega) (by omega)).mono ?_
        rintro e w5 ⟨rfl, hb5⟩
        have m1 := cell_later hb5 T1
        have m2 := frozen_later hb5 hg2 T2
        have m3 := cell_later hb5 hHeld.1
        have m4 := cell_later hb5 hHeld.2.1
        have m5 := cell_later hb5 hHeld.2.2
        refine ⟨_, rfl, ⟨m3, m4, m5⟩, ?_⟩
        simp only [List.setIfInBounds_toArray, List.set_cons_zero, List.set_cons_succ]
        have hHeld5 := And.intro m3 (And.intro m4 m5)
        refine run_at 11 36 rfl rfl (by kernel_rfl) (by rfl) (w' := w5) (by
          go_simp
          with_reducible rfl) hHeld5 ?_
        simp only [List.setIfInBounds_toArray, List.set_cons_zero, List.set_cons_succ]
        have o1 : some b ≠ some w2.heap.size := fun e => by cases e; omega
        have o2 : some b ≠ some Bx := fun e => by cases e; omega
        refine skip_at 12 rfl rfl (by kernel_rfl) (by rfl) (w' := w5.setCell ⟨b, k, none⟩ (.string (torn s2 old))) (by
          go_simp) ⟨?_, ?_, ?_⟩ ?_
        · rw [World.cell?_setCell_other _ _ _ _ (by simp)]; exact m3
        · rw [World.cell?_setCell_other _ _ _ _ (by simp)]; exact m4
        · rw [World.cell?_setCell_other _ _ _ _ (by simp)]; exact m5
        refine wpAnyH_done (by kernel_rfl) ?_ _
        refine ends_done ?_
        all_goals
          have B5 : Below W.heap.size W w5 := (Below.refl W.heap.size W).drew.trans hb5
          have N5 := (HN2.out.later B5).put (torn s2 old) (k := k) (by have := HLEN.out; omega)
          have BT5 : Boxed (w5.setCell ⟨b, k, none⟩ (.string (torn s2 old))) w2.heap.size 24 (.slice (some ⟨b, 0, none⟩) ss.length cap) := (bT1.kept (grown_below (row := none) B5) (by simp)).kept (grown_set w5 b k (.string (torn s2 old))) (by simp only [ne_eq, Option.some.injEq]; omega)
          have BL5 := (bL1.kept (grown_below (row := none) B5) (by simp)).kept (grown_set w5 b k (.string (torn s2 old))) (by simp only [ne_eq, Option.some.injEq]; omega)
          have BN5 := (bN1.kept (grown_below (row := none) B5) (by simp)).kept (grown_set w5 b k (.string (torn s2 old))) (by simp only [ne_eq, Option.some.injEq]; omega)
          have R5 : Res (w.heap.size + 1 + 1 + 1) (w5.setCell ⟨b, k, none⟩ (.string (torn s2 old))) := (r.later B5).put (by omega)
          have K5 := ((KeepsOthers.of_grownBy (grown_below (row := none) B5) (fun j o e => by cases e)).trans (KeepsOthers.setCell w5 ⟨b, k, none⟩ (.string (torn s2 old)))).from W0.heap.size
          have G5 := (B5.mono hB1.size).setCell (p := ⟨b, k, none⟩) (by simp; omega) (.string (torn s2 old))
          rw [← E1.out] at N5
          clear m1 m2 m3 m4 m5 hb5 B5 hHeld hHeld5
          gi_wp2
          exact ⟨K5, G5, ⟨⟨by rw [crashP_snoc]; exact N5, BT5, R5, BL5, BN5⟩, hB1.trans G5⟩⟩

      · have te : ((i : Int) == tn) = false := by simp [hte]
        obtain ⟨lo', lc', e3, hll⟩ := HVL.out.later hB1
        simp only [Value.slice.injEq] at e3
        obtain ⟨rfl, _, rfl⟩ := e3
        have hfree := hll i
        by_cases hib : i < bs.length
        · obtain ⟨lb, lof, rfl, hcl⟩ := hll i hib
          have gl : decide ((i : Int) < (bs.length : Int)) = true := by simp; omega
          have gi : (0 : Int) ≤ (i : Int) := by omega
          have E2 : Hid (stepC bs tn (crashP bs tn ss pre) (i, ((k : Int), s2)) = if bs.getD i false = true then (crashP bs tn ss pre).set k s2 else crashP bs tn ss pre) := (by
            unfold stepC
            rw [if_neg hte, Int.toNat_natCast] : stepC bs tn (crashP bs tn ss pre) (i, ((k : Int), s2)) = if bs.getD i false = true then (crashP bs tn ss pre).set k s2 else crashP bs tn ss pre)
          generalize bs.getD i false = fl at *
          clear hfree hll hte
          cases fl
          · have E3 := E2.out
            rw [if_neg (by simp)] at E3
            have E4 : Hid (stepC bs tn (crashP bs tn ss pre) (i, ((k : Int), s2)) = crashP bs tn ss pre) := E3
            clear E3
            gi_wp2
            exact ⟨(KeepsOthers.refl W).from _, Below.refl _ _, ⟨⟨by rw [crashP_snoc, E4.out]; exact HN2.out, bT1, r, bL1, bN1⟩, hB1⟩⟩
          · have E3 := E2.out
            rw [if_pos rfl] at E3
            have E1 : Hid (stepC bs tn (crashP bs tn ss pre) (i, ((k : Int), s2)) = (crashP bs tn ss pre).set k s2) := E3
            clear E3
            gi_wp2
            refine wpIn_round_held (fun W' => W'.cell? ⟨w2.heap.size, 0, none⟩ = some (.slice (some ⟨b, 0, none⟩) ss.length cap) ∧ W'.cell? ⟨Bx, 0, none⟩ = some (.int .i64 k) ∧ W'.cell? ⟨Bx, 1, none⟩ = some (.string s2)) hmx (by kernel_rfl) ⟨cT, cX0, cX1⟩ (fun hHeld => ?_)
            refine take_at 0 47 rfl rfl (by kernel_rfl) (by kernel_rfl) (by kernel_rfl) (by rfl) hHeld (fun W' hSw => (by
              obtain ⟨s1', s2', s3'⟩ := hSw
              go_simp
              with_reducible rfl)) ?_
            simp only [List.setIfInBounds_toArray, List.set_cons_zero, List.set_cons_succ]
            refine take_at 1 48 rfl rfl (by kernel_rfl) (by kernel_rfl) (by kernel_rfl) (by rfl) hHeld (fun W' hSw => (by
              obtain ⟨s1', s2', s3'⟩ := hSw
              go_simp
              with_reducible rfl)) ?_
            simp only [List.setIfInBounds_toArray, List.set_cons_zero, List.set_cons_succ]
            refine take_at 2 49 rfl rfl (by kernel_rfl) (by kernel_rfl) (by kernel_rfl) (by rfl) hHeld (fun W' hSw => (by
              obtain ⟨s1', s2', s3'⟩ := hSw
              go_simp
              with_reducible rfl)) ?_
            simp only [List.setIfInBounds_toArray, List.set_cons_zero, List.set_cons_succ]
            refine take_at 3 50 rfl rfl (by kernel_rfl) (by kernel_rfl) (by kernel_rfl) (by rfl) hHeld (fun W' hSw => (by
              obtain ⟨s1', s2', s3'⟩ := hSw
              go_simp
              with_reducible rfl)) ?_
            simp only [List.setIfInBounds_toArray, List.set_cons_zero, List.set_cons_succ]
            refine take_at 4 51 rfl rfl (by kernel_rfl) (by kernel_rfl) (by kernel_rfl) (by rfl) hHeld (fun W' hSw => (by
              obtain ⟨s1', s2', s3'⟩ := hSw
              go_simp
              with_reducible rfl)) ?_
            simp only [List.setIfInBounds_toArray, List.set_cons_zero, List.set_cons_succ]
            refine call_at 5 52 rfl rfl (by kernel_rfl) (by rfl) (f := 58) (args := #[.string s2]) (w0 := W.drew) (by
              go_simp) ?_
            refine (copyText_any _ _ (by omega)).mono ?_
            rintro e w5 ⟨rfl, hb5⟩
            have m1 := cell_later hb5 T1
            have m2 := frozen_later hb5 hg2 T2
            have m3 := cell_later hb5 hHeld.1
            have m4 := cell_later hb5 hHeld.2.1
            have m5 := cell_later hb5 hHeld.2.2
            refine ⟨_, rfl, ⟨m3, m4, m5⟩, ?_⟩
            simp only [List.setIfInBounds_toArray, List.set_cons_zero, List.set_cons_succ]
            have hHeld5 := And.intro m3 (And.intro m4 m5)
            refine run_at 6 53 rfl rfl (by kernel_rfl) (by rfl) (w' := w5) (by
              go_simp
              with_reducible rfl) hHeld5 ?_
            simp only [List.setIfInBounds_toArray, List.set_cons_zero, List.set_cons_succ]
            have o1 : some b ≠ some w2.heap.size := fun e => by cases e; omega
            have o2 : some b ≠ some Bx := fun e => by cases e; omega
            refine skip_at 7 rfl rfl (by kernel_rfl) (by rfl) (w' := w5.setCell ⟨b, k, none⟩ (.string s2)) (by
              go_simp) ⟨?_, ?_, ?_⟩ ?_
            · rw [World.cell?_setCell_other _ _ _ _ (by simp)]; exact m3
            · rw [World.cell?_setCell_other _ _ _ _ (by simp)]; exact m4
            · rw [World.cell?_setCell_other _ _ _ _ (by simp)]; exact m5
            refine wpAnyH_done (by kernel_rfl) ?_ _
            refine ends_done ?_
            all_goals
              have B5 : Below W.heap.size W w5 := (Below.refl W.heap.size W).drew.trans hb5
              have N5 := (HN2.out.later B5).put s2 (k := k) (by have := HLEN.out; omega)
              have BT5 : Boxed (w5.setCell ⟨b, k, none⟩ (.string s2)) w2.heap.size 24 (.slice (some ⟨b, 0, none⟩) ss.length cap) := (bT1.kept (grown_below (row := none) B5) (by simp)).kept (grown_set w5 b k (.string s2)) (by simp only [ne_eq, Option.some.injEq]; omega)
              have BL5 := (bL1.kept (grown_below (row := none) B5) (by simp)).kept (grown_set w5 b k (.string s2)) (by simp only [ne_eq, Option.some.injEq]; omega)
              have BN5 := (bN1.kept (grown_below (row := none) B5) (by simp)).kept (grown_set w5 b k (.string s2)) (by simp only [ne_eq, Option.some.injEq]; omega)
              have R5 : Res (w.heap.size + 1 + 1 + 1) (w5.setCell ⟨b, k, none⟩ (.string s2)) := (r.later B5).put (by omega)
              have K5 := ((KeepsOthers.of_grownBy (grown_below (row := none) B5) (fun j o e => by cases e)).trans (KeepsOthers.setCell w5 ⟨b, k, none⟩ (.string s2))).from W0.heap.size
              have G5 := (B5.mono hB1.size).setCell (p := ⟨b, k, none⟩) (by simp; omega) (.string s2)
              rw [← E1.out] at N5
              clear m1 m2 m3 m4 m5 hb5 B5 hHeld hHeld5
              gi_wp2
              exact ⟨K5, G5, ⟨⟨by rw [crashP_snoc]; exact N5, BT5, R5, BL5, BN5⟩, hB1.trans G5⟩⟩
        · have gl : decide ((i : Int) < (bs.length : Int)) = false := by simp; omega
          have E2 : Hid (stepC bs tn (crashP bs tn ss pre) (i, ((k : Int), s2)) = crashP bs tn ss pre) := (by
            unfold stepC
            rw [if_neg hte, List.getD_eq_getElem?_getD, List.getElem?_eq_none (by omega)]
            simp : stepC bs tn (crashP bs tn ss pre) (i, ((k : Int), s2)) = crashP bs tn ss pre)
          clear hfree hll hte
          gi_wp2
          exact ⟨(KeepsOthers.refl W).from _, Below.refl _ _, ⟨⟨by rw [crashP_snoc, E2.out]; exact HN2.out, bT1, r, bL1, bN1⟩, hB1⟩⟩
    case done =>
      rintro D ys W hD hys ⟨⟨hNp, bT1, r, bL1, bN1⟩, hB1⟩ hK
      have cT := bT1.cell
      have q0 := r.1
      have q1 := r.2.1
      have f0 := r.2.2.1
      have f1 := r.2.2.2.1
      rw [crashP_num bs tn ss ws ws.length ys hys, ← E6.out] at hNp
      have P1 := (hNp.aside (c := w.heap.size + 1 + 1 + 1) (o := 0) (.slice (some ⟨b, 0, none⟩) ss.length cap) (by omega)).aside (c := w.heap.size + 1 + 1 + 1) (o := 1) (.slice none 0 0) (by omega)
      have P2 := (hB1.setCell (p := ⟨w.heap.size + 1 + 1 + 1, 0, none⟩) (by simp; omega) (.slice (some ⟨b, 0, none⟩) ss.length cap)).setCell (p := ⟨w.heap.size + 1 + 1 + 1, 1, none⟩) (by simp; omega) (.slice none 0 0)
      have hK' := ((KeepsOthers.setCell W ⟨w.heap.size + 1 + 1 + 1, 0, none⟩ (.slice (some ⟨b, 0, none⟩) ss.length cap)).trans (KeepsOthers.setCell _ ⟨w.heap.size + 1 + 1 + 1, 1, none⟩ (.slice none 0 0))).same D _ hK rfl
      obtain ⟨a0, a1⟩ := set2_cells (u := .slice (some ⟨b, 0, none⟩) ss.length cap) (v := .slice none 0 0) q0 q1
      have hgp := grownBy_putObj' ((W.setCell ⟨w.heap.size + 1 + 1 + 1, 0, none⟩ (.slice (some ⟨b, 0, none⟩) ss.length cap)).setCell ⟨w.heap.size + 1 + 1 + 1, 1, none⟩ (.slice none 0 0)) D (.deferred none)
      have hgr : ∀ r, some D = some r → ∃ o : Obj, ((W.setCell ⟨w.heap.size + 1 + 1 + 1, 0, none⟩ (.slice (some ⟨b, 0, none⟩) ss.length cap)).setCell ⟨w.heap.size + 1 + 1 + 1, 1, none⟩ (.slice none 0 0)).heap[r]? = some o ∧ o.isCells = false := fun r e => by cases e; exact ⟨_, hK', rfl⟩
      have b0 := cell_kept a0 hgp hgr
      have b1 := cell_kept a1 hgp hgr
      have P3 := P1.turned hgp hgr
      have P4 := P2.trans (belowK_b (w := w) (Nat.le_refl _) _ D _ (.deferred none) (by omega) hK' rfl rfl)
      gi_wp2
      refine ⟨by simp, .inl ⟨_, _, rfl, run_takeDeferred hK', ?_⟩⟩
      exact ⟨.agg #[.slice (some ⟨b, 0, none⟩) ss.length cap, .slice none 0 0], by simp [results, Tryz.f39, go_sem, b0, b1], _, _, rfl, ND_of (P3.mono (by omega)) (nw_empty _ _ _ _), P4, HCP.out⟩
    case stop =>
      rintro D c pre W _ _ h _
      exact h.elim

theorem implCrash_any (v1 v2 vl : Value) (ss : List ByteArray) (ws : List Wr) (bs : List Bool) (tn : Int) (w : World) (hv1 : SR w v1 ss) (hv2 : WR w v2 ws) (hvl : LR w vl bs) (h1 : ss.length ≤ 10000000000000) (h2 : ws.length ≤ 10000000000000) :
    Calls Tryz.prog 39 #[.agg #[v1, v2], vl, .int .i64 tn] w fun e w' => ∃ u1 u2, e = .returned (.agg #[u1, u2]) ∧ ND w.heap.size w' u1 u2 (crashS bs tn ss ws) [] ∧ Below w.heap.size w w' :=
  (implCrash_cap v1 v2 vl ss ws bs tn w hv1 hv2 hvl h1 h2).mono fun _ _ ⟨u1, u2, e, n, b, _⟩ => ⟨u1, u2, e, n, b⟩

end Go.Proofs.YtjclpbaiiklhcaaGreatDoor.Disk
