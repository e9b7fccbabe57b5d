import Derived.Test.YthdffigckohpoaaGreatZU11
import Derived.Test.YthdffigckohpoaaGreatZLAny
import Derived.Test.YthdffigckohpoaaGreatZU5
import Derived.Test.YthdffigckohpoaaGreatZU8
/- The draw DrawForward of the model. -/
namespace Go.Proofs.YthdffigckohpoaaGreat
open Go.RowKit

set_option maxRecDepth 100000 in
set_option maxHeartbeats 3200000 in
theorem drawForward_any (cv : Value) (cs : List UInt8) (w : World) (hc : BR w cv cs) (hn : cs.length ≤ 4096) :
    Calls Tryz.prog 27 #[cv] w fun x w' => (∃ t v1 v2 v3 y0 y, x = .returned (.tuple #[.agg #[v1, v2, .int .i64 t.old, .int .i64 t.eden, .int .i64 t.surv, .bool t.flip, .int .i64 t.hash, v3], .int .i64 y0, .int .i64 y]) ∧ In64 y0 ∧ In64 y ∧ HA w.heap.size w' t v1 v2 v3 ∧ t.words.length ≤ 3200 ∧ t.roots.length ≤ 21 ∧ t.kept.length ≤ 3201) ∧ Below w.heap.size w w' := by
  have h0 := bel_one w (.cells #[.slice none 0 0, .slice none 0 0, .int .i64 0, .int .i64 0, .int .i64 0, .bool false, .int .i64 0, .slice none 0 0] 26)
  have R0 := row_any w #[.slice none 0 0, .slice none 0 0, .int .i64 0, .int .i64 0, .int .i64 0, .bool false, .int .i64 0, .slice none 0 0] 26
  have NW := l1New_any cv cs _ (hc.later h0) hn
  have z0 : (w.alloc (.cells #[.slice none 0 0, .slice none 0 0, .int .i64 0, .int .i64 0, .int .i64 0, .bool false, .int .i64 0, .slice none 0 0] 26)).heap.size = w.heap.size + 1 := by simp
  have hmx : Tryz.prog.follows .mixedOrders = true := by kernel_rfl
  go_enter Tryz.func27, Tryz.ntmps27
  go_wp2_with fail
  refine NW.mono ?_
  rintro x w1 ⟨N, rfl, hN, hN1, hb1, d1⟩
  clear NW
  rw [z0] at hN
  have R1 := World.rowIs.of_block R0 (hb1.block _ (by rw [z0]; omega))
  have hbw1 := bel_after h0 hb1
  clear h0 hb1 z0 R0
  go_wp2_with fail
  refine (d1.any hN1).mono ?_
  rintro x w2 ⟨⟨t, v1, v2, v3, rfl, ha, sz⟩, g2, d2⟩
  obtain ⟨p1, e1, rfl, -⟩ := IRs ha.w1
  obtain ⟨p2, e2, rfl, -⟩ := IRs (IR_of_owns ha.o2)
  obtain ⟨p3, e3, rfl, -⟩ := IRs (IR_of_owns ha.o3)
  have K2 := AX.new hc hbw1 R1 (by omega) hN1 g2 d2 ha sz
  clear ha g2 d2 R1 d1 hbw1
  obtain ⟨c0, c1, c2, c3, c4, c5, c6, c7⟩ := va8_cells K2.row
  have LS := K2.dw.word7 K2.lt K2.hr (by omega) (by omega)
  go_wp2_with fail
  refine LS.mono ?_
  rintro x w3 ⟨⟨y0, rfl, hy0⟩, s3⟩
  have K3 := K2.step s3
  generalize w2.heap.size = H at *
  clear K2 s3 LS c0 c1 c2 c3 c4 c5 c6 c7
  have OKC : (#[.slice p1 t.words.length e1, .slice p2 t.roots.length e2, .int .i64 t.old, .int .i64 t.eden, .int .i64 t.surv, .bool t.flip, .int .i64 t.hash, .slice p3 t.kept.length e3] : Array Value).all (·.oneCell') = true := by simp [Value.oneCell']
  have hs0 : AX w w1.heap.size N cv cs H w3.drew t _ _ _ := K3.step (Sx.refl K3.dw).drew
  go_wp2_with fail
  refine Disk.z_plain 99 (fun W' => AX w w1.heap.size N cv cs H W' t (.slice p1 t.words.length e1) (.slice p2 t.roots.length e2) (.slice p3 t.kept.length e3)) hmx hs0 (fun hs => ?_)
  clear hs0
  generalize w3.drew = wd at hs ⊢
  refine Disk.z_take 0 15 (v := .agg #[.slice p1 t.words.length e1, .slice p2 t.roots.length e2, .int .i64 t.old, .int .i64 t.eden, .int .i64 t.surv, .bool t.flip, .int .i64 t.hash, .slice p3 t.kept.length e3]) rfl rfl (by kernel_rfl) (by kernel_rfl) (by kernel_rfl) (by kernel_rfl) (by rfl) hs (fun W' hSw => (by
    obtain ⟨s0, s1, s2, s3, s4, s5, s6, s7⟩ := va8_cells hSw.row
    go_simp; first | done | with_reducible rfl)) ?_
  simp only [List.setIfInBounds_toArray, List.set_cons_zero, List.set_cons_succ]
  refine Disk.z_take 1 16 (v := .int .i64 y0) rfl rfl (by kernel_rfl) (by kernel_rfl) (by kernel_rfl) (by kernel_rfl) (by rfl) hs (fun W' hSw => (by
    obtain ⟨s0, s1, s2, s3, s4, s5, s6, s7⟩ := va8_cells hSw.row
    go_simp; first | done | with_reducible rfl)) ?_
  simp only [List.setIfInBounds_toArray, List.set_cons_zero, List.set_cons_succ]
  refine Disk.z_take 2 17 (v := .pointer (some ⟨N, 0, none⟩)) rfl rfl (by kernel_rfl) (by kernel_rfl) (by kernel_rfl) (by kernel_rfl) (by rfl) hs (fun W' hSw => (by
    obtain ⟨s0, s1, s2, s3, s4, s5, s6, s7⟩ := va8_cells hSw.row
    go_simp; first | done | with_reducible rfl)) ?_
  simp only [List.setIfInBounds_toArray, List.set_cons_zero, List.set_cons_succ]
  refine Disk.z_take 3 18 (v := .agg #[.slice p1 t.words.length e1, .slice p2 t.roots.length e2, .int .i64 t.old, .int .i64 t.eden, .int .i64 t.surv, .bool t.flip, .int .i64 t.hash, .slice p3 t.kept.length e3]) rfl rfl (by kernel_rfl) (by kernel_rfl) (by kernel_rfl) (by kernel_rfl) (by rfl) hs (fun W' hSw => (by
    obtain ⟨s0, s1, s2, s3, s4, s5, s6, s7⟩ := va8_cells hSw.row
    go_simp; first | done | with_reducible rfl)) ?_
  simp only [List.setIfInBounds_toArray, List.set_cons_zero, List.set_cons_succ]
  refine Disk.z_call 4 19 rfl rfl (by kernel_rfl) (by rfl) (f := 55) (args := #[.pointer (some ⟨N, 0, none⟩), .agg #[.slice p1 t.words.length e1, .slice p2 t.roots.length e2, .int .i64 t.old, .int .i64 t.eden, .int .i64 t.surv, .bool t.flip, .int .i64 t.hash, .slice p3 t.kept.length e3]]) (w0 := wd) (by go_simp) ?_
  refine (hs.dw.word7 hs.lt hs.hr (by have := hs.sz; omega) (by have := hs.sz; omega)).mono ?_
  rintro e wq ⟨⟨y, rfl, hy⟩, sq⟩
  have hsq := hs.step sq
  refine ⟨_, rfl, .inr hsq, ?_⟩
  simp only [List.setIfInBounds_toArray, List.set_cons_zero, List.set_cons_succ]
  clear hs sq
  obtain ⟨fR, FR⟩ := hsq.res
  obtain ⟨w9, run9, F9, G9⟩ := store_run wq w.heap.size _ fR FR rfl OKC
  have hs9 := hsq.ans G9 F9
  have ED := hsq.done G9
  refine Disk.z_skip 5 (w' := w9) rfl rfl (by kernel_rfl) (by rfl) (exec_store rfl rfl rfl run9) (.inr hs9) ?_
  refine Disk.z_run 6 3 (v := .int .i64 y0) rfl rfl (by kernel_rfl) (by rfl) (w' := w9) (by go_simp; first | done | with_reducible rfl) (.inr hs9) ?_
  simp only [List.setIfInBounds_toArray, List.set_cons_zero, List.set_cons_succ]
  refine Disk.z_run 7 4 (v := .int .i64 y) rfl rfl (by kernel_rfl) (by rfl) (w' := w9) (by go_simp; first | done | with_reducible rfl) (.inr hs9) ?_
  simp only [List.setIfInBounds_toArray, List.set_cons_zero, List.set_cons_succ]
  refine Disk.z_done (by kernel_rfl) ?_ _
  have r0 := F9.cell (i := 0) (by omega); have r1 := F9.cell (i := 1) (by omega); have r2 := F9.cell (i := 2) (by omega); have r3 := F9.cell (i := 3) (by omega); have r4 := F9.cell (i := 4) (by omega); have r5 := F9.cell (i := 5) (by omega); have r6 := F9.cell (i := 6) (by omega); have r7 := F9.cell (i := 7) (by omega)
  have sz9 := hsq.sz
  clear run9 G9 FR hsq hs9 OKC
  go_wp2_with fail
  exact bodyPost_ret (v := .tuple #[.agg #[.slice p1 t.words.length e1, .slice p2 t.roots.length e2, .int .i64 t.old, .int .i64 t.eden, .int .i64 t.surv, .bool t.flip, .int .i64 t.hash, .slice p3 t.kept.length e3], .int .i64 y0, .int .i64 y]) (by simp [results, Tryz.results27, go_sem, r0, r1, r2, r3, r4, r5, r6, r7]) rfl ⟨⟨t, _, _, _, y0, y, rfl, hy0, hy, ED.1, sz9⟩, ED.2⟩

set_option maxRecDepth 100000 in
set_option maxHeartbeats 3200000 in
theorem drawExchange_any (cv : Value) (cs : List UInt8) (w : World) (hc : BR w cv cs) (hn : cs.length ≤ 4096) :
    Calls Tryz.prog 23 #[cv] w fun x w' => (∃ t v1 v2 v3 y0 y, x = .returned (.tuple #[.agg #[v1, v2, .int .i64 t.old, .int .i64 t.eden, .int .i64 t.surv, .bool t.flip, .int .i64 t.hash, v3], .int .i64 y0, .int .i64 y]) ∧ In64 y0 ∧ In64 y ∧ HA w.heap.size w' t v1 v2 v3 ∧ t.words.length ≤ 3200 ∧ t.roots.length ≤ 21 ∧ t.kept.length ≤ 3201) ∧ Below w.heap.size w w' := by
  have h0 := bel_one w (.cells #[.slice none 0 0, .slice none 0 0, .int .i64 0, .int .i64 0, .int .i64 0, .bool false, .int .i64 0, .slice none 0 0] 26)
  have R0 := row_any w #[.slice none 0 0, .slice none 0 0, .int .i64 0, .int .i64 0, .int .i64 0, .bool false, .int .i64 0, .slice none 0 0] 26
  have DF := drawForward_any cv cs _ (hc.later h0) hn
  have z0 : (w.alloc (.cells #[.slice none 0 0, .slice none 0 0, .int .i64 0, .int .i64 0, .int .i64 0, .bool false, .int .i64 0, .slice none 0 0] 26)).heap.size = w.heap.size + 1 := by simp
  go_enter Tryz.func23, Tryz.ntmps23
  go_wp2_with fail
  refine DF.mono ?_
  rintro x w1 ⟨⟨t, v1, v2, v3, y0, y, rfl, hy0, hy, ha, sz⟩, hb1⟩
  rw [z0] at ha
  have R1 := World.rowIs.of_block R0 (hb1.block _ (by rw [z0]; omega))
  have hbw1 := bel_after h0 hb1
  obtain ⟨p1, e1, rfl, -⟩ := IRs ha.w1
  obtain ⟨p2, e2, rfl, -⟩ := IRs (IR_of_owns ha.o2)
  obtain ⟨p3, e3, rfl, -⟩ := IRs (IR_of_owns ha.o3)
  clear DF R0 hb1 h0 z0
  have OKC : (#[.slice p1 t.words.length e1, .slice p2 t.roots.length e2, .int .i64 t.old, .int .i64 t.eden, .int .i64 t.surv, .bool t.flip, .int .i64 t.hash, .slice p3 t.kept.length e3] : Array Value).all (·.oneCell') = true := by simp [Value.oneCell']
  go_wp2_with ((with_reducible refine store_box _ ?_ (.tmp 2) (.tmp 7) 26 ?_ 26 w.heap.size 8 #[.slice p1 t.words.length e1, .slice p2 t.roots.length e2, .int .i64 t.old, .int .i64 t.eden, .int .i64 t.surv, .bool t.flip, .int .i64 t.hash, .slice p3 t.kept.length e3] _ ?_ ?_ R1 ?_ ?_ OKC ?_); rfl; rfl; rfl; rfl; rfl; kernel_rfl; intro w9 F9 G9)
  have r0 := F9.cell (i := 0) (by omega); have r1 := F9.cell (i := 1) (by omega); have r2 := F9.cell (i := 2) (by omega); have r3 := F9.cell (i := 3) (by omega); have r4 := F9.cell (i := 4) (by omega); have r5 := F9.cell (i := 5) (by omega); have r6 := F9.cell (i := 6) (by omega); have r7 := F9.cell (i := 7) (by omega)
  have HF := (ha.off G9 (by omega)).down (C := w.heap.size) (by omega)
  have BF : Below w.heap.size w w9 := Below.grown hbw1 G9 hbw1.size (fun q hq => by cases hq; omega)
  exact bodyPost_ret (v := .tuple #[.agg #[.slice p1 t.words.length e1, .slice p2 t.roots.length e2, .int .i64 t.old, .int .i64 t.eden, .int .i64 t.surv, .bool t.flip, .int .i64 t.hash, .slice p3 t.kept.length e3], .int .i64 y0, .int .i64 y]) (by simp [results, Tryz.results23, go_sem, r0, r1, r2, r3, r4, r5, r6, r7]) rfl ⟨⟨t, _, _, _, y0, y, rfl, hy0, hy, HF, sz⟩, BF⟩

end Go.Proofs.YthdffigckohpoaaGreat

/- Theory of FnHeaps: the headers of a right heap, the sum of its objects' sizes, a new heap is right; likeInts. -/
namespace Go.Proofs.YthdffigckohpoaaGreat
open Go.RowKit

/-- The words that these objects take. -/
def szS (W : List Int) : List Nat → Int
  | [] => 0
  | a :: l => 4 + gw W a + szS W l
theorem szS_app (W : List Int) (l m : List Nat) : szS W (l ++ m) = szS W l + szS W m := by
  induction l with
  | nil => simp [szS]
  | cons a l ih => simp only [List.cons_append, szS, ih]; omega
theorem szS_snoc (W : List Int) (l : List Nat) (k : Nat) (h : k < l.length) : szS W (l.take (k + 1)) = szS W (l.take k) + 4 + gw W (l.getD k 0) := by
  rw [List.take_succ_eq_append_getElem h, szS_app]
  simp only [szS, List.getD_eq_getElem?_getD, List.getElem?_eq_getElem h, Option.getD_some]
  omega
theorem szS_its {W : List Int} {f n : Nat} (h : ∀ i, i < n → headB W (it W f i) = true) : szS W (its W f n) = (it W f n : Int) - f := by
  induction n with
  | zero => simp [its, szS, it]
  | succ n ih =>
    have hh := h n (by omega)
    unfold headB at hh
    simp only [Bool.and_eq_true, decide_eq_true_eq] at hh
    rw [its_succ, szS_app, ih (fun i hi => h i (by omega))]
    show (it W f n : Int) - f + (4 + gw W (it W f n) + 0) = (nx W (it W f n) : Nat) - f
    unfold nx
    omega
theorem szS_all {h : Hp} {l : List Nat} (k : PartsAt h l) : szS h.words l = h.old + h.eden - 2000 + h.surv - (survB h.flip : Int) := by
  obtain ⟨_, o, e, s, n0, n1, n2, g0, g1, g2, rfl⟩ := k
  rw [szS_app, szS_app, szS_its g0.2, szS_its g1.2, szS_its g2.2, g0.1, g1.1, g2.1]
  omega
theorem szS_bound {h : Hp} {l : List Nat} (k : PartsAt h l) (n : Nat) : 0 ≤ szS h.words (l.take n) ∧ szS h.words (l.take n) ≤ 210000 := by
  have L := k.short
  have B : ∀ m : List Nat, (∀ a, a ∈ m → a ∈ l) → 0 ≤ szS h.words m ∧ szS h.words m ≤ 64 * m.length := by
    intro m
    induction m with
    | nil => intro _; simp [szS]
    | cons a m ih =>
      intro q
      have hh := (k.obj (q a (by simp))).2.2
      unfold headB at hh
      simp only [Bool.and_eq_true, decide_eq_true_eq] at hh
      have := ih (fun b hb => q b (by simp [hb]))
      simp only [szS, List.length_cons]
      omega
  have := B (l.take n) (fun a ha => List.mem_of_mem_take ha)
  have tl : (l.take n).length ≤ l.length := by rw [List.length_take]; omega
  omega
theorem rise {l : List Nat} (so : l.Pairwise (· < ·)) {k : Nat} (h : k + 1 < l.length) : l.getD k 0 < l.getD (k + 1) 0 := by
  have := List.pairwise_iff_getElem.1 so k (k + 1) (by omega) h (by omega)
  simpa [List.getD_eq_getElem?_getD, List.getElem?_eq_getElem h, List.getElem?_eq_getElem (show k < l.length by omega)] using this
theorem getD_memL {l : List Nat} {k : Nat} (h : k < l.length) : l.getD k 0 ∈ l := by
  rw [List.getD_eq_getElem?_getD, List.getElem?_eq_getElem h]
  exact List.getElem_mem h
/-- What the header of an object of a right heap is. -/
theorem head_of {h : Hp} (k : okC h = true) {i : Nat} (hi : i < (obC h).length) :
    isC h ((obC h).getD i 0 : Nat) = true ∧ (obC h).getD i 0 + 4 ≤ 3200 ∧ (0 ≤ gw h.words ((obC h).getD i 0) ∧ gw h.words ((obC h).getD i 0) ≤ 60) ∧ (0 ≤ gw h.words ((obC h).getD i 0 + 1) ∧ gw h.words ((obC h).getD i 0 + 1) ≤ 99) ∧
    (1 ≤ gw h.words ((obC h).getD i 0 + 2) ∧ gw h.words ((obC h).getD i 0 + 2) < h.hash) ∧ (0 ≤ gw h.words ((obC h).getD i 0 + 3) ∧ gw h.words ((obC h).getD i 0 + 3) ≤ 15) := by
  have R := c_right k
  have m := getD_memL hi
  have o := R.1.obj m
  have hh := o.2.2
  unfold headB at hh
  simp only [Bool.and_eq_true, decide_eq_true_eq] at hh
  refine ⟨?_, o.1, hh.1, hh.2.1, ⟨R.2.2.2.1 _ m, R.2.2.2.2.1.1 _ m⟩, hh.2.2⟩
  unfold isC
  exact mem_stop hi rfl
theorem new_ok : okC newH = true := by
  have W : newH.words = newW := rfl
  have g : ∀ i, gw newH.words i = 0 := fun i => newW_get i
  refine (c_yes (l := []) ?_).1
  refine ⟨⟨newW_length, ⟨by decide, by decide⟩, ⟨by decide, by decide⟩, ⟨by decide, by decide⟩, 0, 0, 0, ⟨rfl, fun i hi => absurd hi (by omega)⟩, ⟨rfl, fun i hi => absurd hi (by omega)⟩, ⟨rfl, fun i hi => absurd hi (by omega)⟩, rfl⟩, fun i _ _ => g i, ⟨by decide, by decide⟩, ?_, ⟨?_, ?_⟩, ?_, ?_, ?_, rfl⟩
  · intro a ha; simp at ha
  · intro a ha; simp at ha
  · exact List.nodup_nil
  · show ([] : List Int).length ≤ 20; simp
  · intro x hx; exact absurd (show x ∈ ([] : List Int) from hx) (by simp)
  · intro a ha; simp at ha

set_option maxHeartbeats 400000 in
theorem likeInts_any (v u : Value) (ss : List Int) (w : World) (hv : IR w v ss) (hu : IR w u ss) (h1 : ss.length ≤ 1000000000000000) :
    Calls Tryz.prog 14 #[v, u] w fun e w' => e = .returned (.bool true) ∧ Below w.heap.size w w' := by
  obtain ⟨ao, cap, rfl, _, hv⟩ := hv
  obtain ⟨bo, cbp, rfl, _, hu⟩ := hu
  have hl' : ((ss.length : Int) != (ss.length : Int)) = false := by simp
  go_enter Tryz.func14, Tryz.ntmps14
  go_wp2
  go_loopw [5] (fun a wr => ∃ (k : Nat), a = .int .i64 k ∧ k ≤ ss.length ∧ ∃ n, wr = w.drewN n) (fun a _ => (ss.length - (intOf a).toNat))
  case atStart => exact ⟨0, rfl, Nat.zero_le _, 0, rfl⟩
  case round =>
    obtain ⟨k, rfl, hk, n, rfl⟩ := hrel
    by_cases hlt : k < ss.length
    · obtain ⟨b, o, rfl, hc⟩ := hv k hlt
      obtain ⟨b', o', rfl, hc'⟩ := hu k hlt
      generalize ss.getD k 0 = s at *
      have he : (s != s) = false := by simp
      clear hv hu
      go_wp2
      go_region
      all_goals go_wp2
      all_goals go_roundw
      case rel => exact ⟨k + 1, by go_num, by omega, _, rfl⟩
      case measure => simp [intOf]; omega
    · go_wp2
      go_ret
      exact ⟨rfl, below_drewN (Below.refl _ _) _⟩

end Go.Proofs.YthdffigckohpoaaGreat

/- Heaps held against each other in a law. -/
namespace Go.Proofs.YthdffigckohpoaaGreat
open Go.RowKit

set_option maxRecDepth 100000 in
set_option maxHeartbeats 1600000 in
theorem likeHeap_any (v u : Value) (h : Hp) (w : World) (hv : HR w v h) (hu : HR w u h) (l1 : h.words.length ≤ 10000000000000) (l2 : h.roots.length ≤ 10000000000000) (l3 : h.kept.length ≤ 10000000000000) :
    Calls Tryz.prog 10 #[v, u] w fun e w' => e = .returned (.bool true) ∧ Below w.heap.size w w' := by
  obtain ⟨v1, v2, v3, rfl, a1, a2, a3⟩ := hv
  obtain ⟨u1, u2, u3, rfl, b1, b2, b3⟩ := hu
  have hb0 : Below w.heap.size w ((w.alloc (.cells #[v1, v2, .int .i64 h.old, .int .i64 h.eden, .int .i64 h.surv, .bool h.flip, .int .i64 h.hash, v3] 26)).alloc (.cells #[u1, u2, .int .i64 h.old, .int .i64 h.eden, .int .i64 h.surv, .bool h.flip, .int .i64 h.hash, u3] 26)) := bel_after (bel_one _ _) (bel_one _ _)
  have X0 := (Bx.new w v1 v2 v3 h 26).later (bel_one _ (.cells #[u1, u2, .int .i64 h.old, .int .i64 h.eden, .int .i64 h.surv, .bool h.flip, .int .i64 h.hash, u3] 26))
  have Y0 : Bx ((w.alloc (.cells #[v1, v2, .int .i64 h.old, .int .i64 h.eden, .int .i64 h.surv, .bool h.flip, .int .i64 h.hash, v3] 26)).alloc (.cells #[u1, u2, .int .i64 h.old, .int .i64 h.eden, .int .i64 h.surv, .bool h.flip, .int .i64 h.hash, u3] 26)) (w.heap.size + 1) u1 u2 u3 h := by
    have q := Bx.new (w.alloc (.cells #[v1, v2, .int .i64 h.old, .int .i64 h.eden, .int .i64 h.surv, .bool h.flip, .int .i64 h.hash, v3] 26)) u1 u2 u3 h 26
    rwa [World.size_alloc] at q
  have E1 := likeInts_any v1 u1 h.words _ (a1.later hb0) (b1.later hb0) (by omega)
  go_enter Tryz.func10, Tryz.ntmps10
  go_wp2_with fail
  refine E1.mono ?_
  rintro e w1 ⟨rfl, hb1⟩
  have hbw1 := bel_after hb0 hb1
  have X1 := X0.later hb1
  have Y1 := Y0.later hb1
  obtain ⟨x0, x1, x2, x3, x4, x5, x6, x7⟩ := id X1
  obtain ⟨y0, y1, y2, y3, y4, y5, y6, y7⟩ := id Y1
  have E2 := likeInts_any v2 u2 h.roots _ (a2.later hbw1) (b2.later hbw1) (by omega)
  clear E1 X0 Y0
  go_wp2_with fail
  refine E2.mono ?_
  rintro e w2 ⟨rfl, hb2⟩
  have hbw2 := bel_after hbw1 hb2
  have X2 := X1.later hb2
  have Y2 := Y1.later hb2
  clear x0 x1 x2 x3 x4 x5 x6 x7 y0 y1 y2 y3 y4 y5 y6 y7
  obtain ⟨x0, x1, x2, x3, x4, x5, x6, x7⟩ := id X2
  obtain ⟨y0, y1, y2, y3, y4, y5, y6, y7⟩ := id Y2
  have E3 := likeInts_any v3 u3 h.kept _ (a3.later hbw2) (b3.later hbw2) (by omega)
  clear E2 X1 Y1
  go_wp2_with fail
  refine E3.mono ?_
  rintro e w3 ⟨rfl, hb3⟩
  go_wp2
  go_ret
  exact ⟨rfl, bel_after hbw2 hb3⟩

/-- The shape of a heap that is owned. -/
theorem HN.sh {B : Nat} {w : World} {v : Value} {h : Hp} (k : HN B w v h) : ∃ a1 c1 a2 c2 a3 c3, v = .agg #[.slice a1 h.words.length c1, .slice a2 h.roots.length c2, .int .i64 h.old, .int .i64 h.eden, .int .i64 h.surv, .bool h.flip, .int .i64 h.hash, .slice a3 h.kept.length c3] ∧
    IR w (.slice a1 h.words.length c1) h.words ∧ IR w (.slice a2 h.roots.length c2) h.roots ∧ IR w (.slice a3 h.kept.length c3) h.kept := by
  obtain ⟨v1, v2, v3, e, os, ir, rest⟩ := k.ex
  obtain ⟨a1, c1, rfl, _⟩ := IRs ir.1
  obtain ⟨a2, c2, rfl, _⟩ := IRs ir.2.1
  obtain ⟨a3, c3, rfl, _⟩ := IRs ir.2.2
  exact ⟨a1, c1, a2, c2, a3, c3, e, ir⟩
/-- The cell of a list that is read. -/
theorem IR.at {w : World} {a : Option Addr} {n c : Nat} {l : List Int} (h : IR w (.slice a n c) l) {k : Nat} (hk : k < l.length) : ∃ b o, a = some ⟨b, o, none⟩ ∧ w.cell? ⟨b, o + k, none⟩ = some (.int .i64 (l.getD k 0)) := by
  obtain ⟨ao, cap, e, _, hc⟩ := h
  simp only [Value.slice.injEq] at e
  obtain ⟨rfl, rfl, rfl⟩ := e
  exact hc k hk

end Go.Proofs.YthdffigckohpoaaGreat

/- Theory of FnRooted and FnSet: a heap with another root is right; what is set is got, set back it is the heap of before. -/
namespace Go.Proofs.YthdffigckohpoaaGreat
open Go.RowKit

theorem root_right {h : Hp} {l : List Nat} (R : RightAt h l) (rt : List Int) (h1 : rt.length ≤ 20) (h2 : ∀ x, x ∈ rt → fitB l x = true) : RightAt { h with roots := rt } l := by
  obtain ⟨p, z, hh, h3, h4, r1, r2, f, k⟩ := R
  exact ⟨p, z, hh, h3, h4, h1, h2, f, k⟩
theorem add_ok {h : Hp} {x : Int} (q : addB h x = true) : okC (addC h x) = true ∧ addC h x = { h with roots := h.roots ++ [x] } := by
  have e : addC h x = { h with roots := h.roots ++ [x] } := by unfold addC; rw [q]; rfl
  refine ⟨?_, e⟩
  unfold addB at q
  simp only [Bool.and_eq_true, Bool.not_eq_true', decide_eq_false_iff_not] at q
  obtain ⟨k, f, n⟩ := q
  have R := c_right k
  rw [e]
  refine (c_yes (root_right R _ ?_ ?_)).1
  · have := R.2.2.2.2.2.1
    rw [List.length_append]
    show _ + 1 ≤ 20
    omega
  · intro y hy
    rw [List.mem_append] at hy
    rcases hy with hy | hy
    · exact R.2.2.2.2.2.2.1 y hy
    · rw [List.mem_singleton] at hy
      subst hy
      exact f
theorem set_ok {h : Hp} {i x : Int} (q : setB h i x = true) : okC (setC h i x) = true ∧ setC h i x = { h with roots := h.roots.set i.toNat x } ∧ 0 ≤ i ∧ i < h.roots.length := by
  have e : setC h i x = { h with roots := h.roots.set i.toNat x } := by unfold setC; rw [q]; rfl
  unfold setB at q
  simp only [Bool.and_eq_true, decide_eq_true_eq] at q
  obtain ⟨k, f, n⟩ := q
  refine ⟨?_, e, n⟩
  have R := c_right k
  rw [e]
  refine (c_yes (root_right R _ ?_ ?_)).1
  · have := R.2.2.2.2.2.1
    rw [List.length_set]
    omega
  · intro y hy
    rcases List.mem_or_eq_of_mem_set hy with hy | rfl
    · exact R.2.2.2.2.2.2.1 y hy
    · exact f

theorem fit_in {l : List Nat} {x : Int} (k : fitB l x = true) : In64 x := by
  unfold fitB at k
  simp only [Bool.or_eq_true, Bool.and_eq_true, decide_eq_true_eq] at k
  have : kindW x ≠ 0 := by rcases k with k | k <;> omega
  unfold kindW at this
  unfold In64
  split at this
  · split at this
    · rename_i h1 h2
      unfold adrB at h2
      simp only [decide_eq_true_eq] at h2
      omega
    · omega
  · split at this
    · rename_i h1 h2
      unfold numB at h2
      simp only [decide_eq_true_eq] at h2
      omega
    · omega

/-- All that FnSet asks of a field that was set. -/
theorem put_all {h : Hp} {x i y : Int} (q : putB h x i y = true) : ∃ p : Nat, p < 3200 ∧ h.words.length = 3200 ∧ (putC h x i y).words = h.words.set p y ∧ (putC h x i y).words.length = 3200 ∧ okC h = true ∧ okC (putC h x i y) = true ∧
    fldB h x i = true ∧ getC h x i = gw h.words p ∧ fldB (putC h x i y) x i = true ∧ getC (putC h x i y) x i = y ∧ putB (putC h x i y) x i (gw h.words p) = true ∧ putC (putC h x i y) x i (gw h.words p) = h ∧
    (∀ k c, k < 4 → clsC (putC h x i y) x k c = clsC h x k c) ∧ In64 (gw h.words p) := by
  have e := put_yes q
  unfold putB at q
  simp only [Bool.and_eq_true, decide_eq_true_eq] at q
  obtain ⟨k, f, r, i0, i1⟩ := q
  have R := c_right k
  obtain ⟨kx, a, ha, ea⟩ := ref_mem r
  have e2 : (x / 2).toNat = a := by omega
  rw [e2] at i1 e
  obtain ⟨j, rfl⟩ := Int.eq_ofNat_of_zero_le i0
  have e3 : ((j : Int)).toNat = j := by omega
  rw [e3] at e
  have L := R.1.1
  have pl := put_lt R ha i1
  have PR := put_right R ha i1 y f
  obtain ⟨ks, os⟩ := c_yes PR
  have es : putC h x j y = { h with words := h.words.set (a + 4 + j) y, kept := keptOf (h.words.set (a + 4 + j) y) (obC h) } := e
  have hw : (putC h x j y).words = h.words.set (a + 4 + j) y := by rw [es]
  have ho : obC (putC h x j y) = obC h := by rw [es]; exact os
  have hk : okC (putC h x j y) = true := by rw [es]; exact ks
  have rs : refB (putC h x j y) x = true := ref_of kx (by rw [ho]; exact ha) ea
  have hd := fun m (hm : m < 4) => put_head R ha i1 y ha hm
  have ga : gw (putC h x j y).words a = gw h.words a := by rw [hw]; exact hd 0 (by omega)
  have fo : fitB (obC h) (gw h.words (a + 4 + j)) = true := R.2.2.2.2.2.2.2.1 a ha _ (by omega) pl.1
  have F1 : fldB h x j = true := by unfold fldB; rw [k, r, e2]; simp [i1]
  have F2 : fldB (putC h x j y) x j = true := by unfold fldB; rw [hk, rs, e2, ga]; simp [i1]
  have P2 : putB (putC h x j y) x j (gw h.words (a + 4 + j)) = true := by unfold putB; rw [hk, rs, e2, ga, ho, fo]; simp [i1]
  refine ⟨a + 4 + j, pl.2, L, hw, by rw [hw, List.length_set]; exact L, k, hk, F1, ?_, F2, ?_, P2, ?_, ?_, fit_in fo⟩
  · unfold getC; rw [if_pos F1, e2, e3]
  · unfold getC
    rw [if_pos F2, e2, e3, hw, gw_set _ _ _ _ (by omega), if_pos rfl]
  · rw [put_yes P2, e2, e3]
    have back : (h.words.set (a + 4 + j) y).set (a + 4 + j) (gw h.words (a + 4 + j)) = h.words := by
      rw [List.set_set]
      unfold gw
      rw [List.getD_eq_getElem?_getD, List.getElem?_eq_getElem (by omega), Option.getD_some, List.set_getElem_self]
    unfold putH
    rw [ho, hw, back, R.2.2.2.2.2.2.2.2, es]
  · intro m c hm
    unfold clsC
    rw [k, hk, r, rs, e2, hw, hd m hm]
/-- How many words are others so far. -/
theorem count_put {W : List Int} {p k : Nat} {y : Int} (hp : p < W.length) : (gw W k != gw (W.set p y) k) = (decide (k = p) && (gw W p != y)) := by
  rw [gw_set _ _ _ _ hp]
  by_cases e : k = p
  · subst e; simp
  · rw [if_neg e]; simp [e]

end Go.Proofs.YthdffigckohpoaaGreat

/- Objects become others, in plain words: every field and every root is changed by a function. -/
namespace Go.Proofs.YthdffigckohpoaaGreat
open Go.RowKit

/-- The words, changed by f at the places P. -/
def cW (f : Int → Int) (W : List Int) (P : Nat → Bool) : List Int := (List.range W.length).map fun j => if P j = true then f (gw W j) else gw W j
theorem cW_length (f : Int → Int) (W : List Int) (P : Nat → Bool) : (cW f W P).length = W.length := by simp [cW]
theorem cW_gw (f : Int → Int) (W : List Int) (P : Nat → Bool) {j : Nat} (h : j < W.length) : gw (cW f W P) j = if P j = true then f (gw W j) else gw W j := by
  show (cW f W P).getD j 0 = _
  unfold cW
  simp [List.getD_eq_getElem?_getD, h]
theorem gw_ext {V W : List Int} (hl : V.length = W.length) (h : ∀ j, j < V.length → gw V j = gw W j) : V = W := ilists_eq hl h
theorem cW_congr {f : Int → Int} {W : List Int} {P Q : Nat → Bool} (h : ∀ j, j < W.length → P j = Q j) : cW f W P = cW f W Q := by
  refine gw_ext (by simp [cW_length]) fun j hj => ?_
  rw [cW_length] at hj
  rw [cW_gw _ _ _ hj, cW_gw _ _ _ hj, h j hj]
theorem cW_id {f : Int → Int} {W : List Int} {P : Nat → Bool} (h : ∀ j, j < W.length → P j = true → f (gw W j) = gw W j) : cW f W P = W := by
  refine gw_ext (by simp [cW_length]) fun j hj => ?_
  rw [cW_length] at hj
  rw [cW_gw _ _ _ hj]
  split
  · exact h j hj ‹_›
  · rfl
theorem cW_keep {f : Int → Int} {W : List Int} {P : Nat → Bool} {j : Nat} (hy : f (gw W j) = gw W j) : cW f W P = cW f W (fun i => P i || decide (i = j)) := by
  refine gw_ext (by simp [cW_length]) fun i hi => ?_
  rw [cW_length] at hi
  rw [cW_gw _ _ _ hi, cW_gw _ _ _ hi]
  by_cases e : i = j
  · subst e
    simp only [decide_true, Bool.or_true, hy, ite_self]
  · rw [decide_eq_false e, Bool.or_false]
theorem cW_set {f : Int → Int} {W : List Int} {P : Nat → Bool} {j : Nat} (hj : j < W.length) {y : Int} (hy : y = f (gw W j)) : (cW f W P).set j y = cW f W (fun i => P i || decide (i = j)) := by
  refine gw_ext (by simp [cW_length]) fun i hi => ?_
  rw [List.length_set, cW_length] at hi
  rw [gw_set _ _ _ _ (by rw [cW_length]; exact hj), cW_gw _ _ _ hi, cW_gw _ _ _ hi]
  by_cases e : i = j
  · subst e
    rw [if_pos rfl, decide_eq_true rfl, Bool.or_true, if_pos rfl, hy]
  · rw [if_neg e, decide_eq_false e, Bool.or_false]
theorem cW_cW {f : Int → Int} {W : List Int} {P Q : Nat → Bool} (h : ∀ j, j < W.length → P j = true → Q j = false) : cW f (cW f W P) Q = cW f W (fun j => P j || Q j) := by
  refine gw_ext (by simp [cW_length]) fun i hi => ?_
  rw [cW_length, cW_length] at hi
  rw [cW_gw _ _ _ (by rw [cW_length]; exact hi), cW_gw _ _ _ hi, cW_gw _ _ _ hi]
  cases hP : P i
  · simp
  · rw [h i hi hP]
    simp
def rngB (q n j : Nat) : Bool := decide (q ≤ j ∧ j < q + n)
theorem cW_all (f : Int → Int) (W : List Int) : cW f W (rngB 0 W.length) = W.map f := by
  refine gw_ext (by simp [cW_length]) fun i hi => ?_
  rw [cW_length] at hi
  rw [cW_gw _ _ _ hi, rngB, decide_eq_true ⟨Nat.zero_le _, by omega⟩, if_pos rfl]
  simp [gw, List.getD_eq_getElem?_getD, hi]
theorem cW_zero (f : Int → Int) (W : List Int) (q : Nat) : cW f W (rngB q 0) = W := cW_id fun j _ h => by
  have := of_decide_eq_true h
  omega
theorem rng_succ (q n j : Nat) : (rngB q n j || decide (j = q + n)) = rngB q (n + 1) j := by
  unfold rngB
  rw [← Bool.decide_or]
  refine decide_eq_decide.2 ?_
  omega

/-- Is this the place of a field of these objects? -/
def fldI (W : List Int) (l : List Nat) (j : Nat) : Bool := l.any fun a => decide (a + 4 ≤ j ∧ j < nx W a)
theorem fldI_iff {W : List Int} {l : List Nat} {j : Nat} : fldI W l j = true ↔ ∃ a, a ∈ l ∧ a + 4 ≤ j ∧ j < nx W a := by
  unfold fldI
  rw [List.any_eq_true]
  exact ⟨fun ⟨a, ha, k⟩ => ⟨a, ha, of_decide_eq_true k⟩, fun ⟨a, ha, k⟩ => ⟨a, ha, decide_eq_true k⟩⟩
theorem fldI_no {W : List Int} {l : List Nat} {j : Nat} (h : ∀ a, a ∈ l → a + 4 ≤ j → j < nx W a → False) : fldI W l j = false := by
  rw [Bool.eq_false_iff]
  intro k
  obtain ⟨a, ha, h1, h2⟩ := fldI_iff.1 k
  exact h a ha h1 h2
theorem fldI_snoc (W : List Int) (l : List Nat) (k : Nat) (h : k < l.length) (j : Nat) : fldI W (l.take (k + 1)) j = (fldI W (l.take k) j || rngB (l.getD k 0 + 4) (gw W (l.getD k 0)).toNat j) := by
  have e : l.take (k + 1) = l.take k ++ [l.getD k 0] := by
    rw [List.take_add_one, List.getElem?_eq_getElem h]
    simp [h]
  unfold fldI
  rw [e, List.any_append, List.any_cons, List.any_nil, Bool.or_false]
  rfl
section
variable {h : Hp} {l : List Nat} (R : PartsAt h l)
include R
theorem fld_head {m : List Nat} (hm : ∀ b, b ∈ m → b ∈ l) {a k : Nat} (ha : a ∈ l) (hk : k < 4) : fldI h.words m (a + k) = false := by
  refine fldI_no fun b hb h1 h2 => ?_
  rcases Nat.lt_trichotomy a b with q | q | q
  · omega
  · omega
  · have := R.apart (hm b hb) ha q
    omega
theorem fld_apart {m : List Nat} (hm : ∀ b, b ∈ m → b ∈ l) {a j : Nat} (ha : a ∈ l) (hn : a ∉ m) (h1 : a + 4 ≤ j) (h2 : j < nx h.words a) : fldI h.words m j = false := by
  refine fldI_no fun b hb g1 g2 => ?_
  rcases Nat.lt_trichotomy a b with q | q | q
  · have := R.apart ha (hm b hb) q
    omega
  · subst q
    exact hn hb
  · have := R.apart (hm b hb) ha q
    omega
theorem cw_head (f : Int → Int) {m : List Nat} (hm : ∀ b, b ∈ m → b ∈ l) {a k : Nat} (ha : a ∈ l) (hk : k < 4) : gw (cW f h.words (fldI h.words m)) (a + k) = gw h.words (a + k) := by
  have q := (R.obj ha).1
  rw [cW_gw _ _ _ (by rw [R.1]; omega), fld_head R hm ha hk]
  rfl
theorem cw_nx (f : Int → Int) {m : List Nat} (hm : ∀ b, b ∈ m → b ∈ l) {a : Nat} (ha : a ∈ l) : nx (cW f h.words (fldI h.words m)) a = nx h.words a := by
  have := cw_head R f hm ha (k := 0) (by omega)
  rw [Nat.add_zero] at this
  unfold nx
  rw [this]
theorem cw_in (f : Int → Int) {a j : Nat} (ha : a ∈ l) (h1 : a + 4 ≤ j) (h2 : j < nx h.words a) : gw (cW f h.words (fldI h.words l)) j = f (gw h.words j) := by
  have q := (R.obj ha).2.1
  rw [cW_gw _ _ _ (by rw [R.1]; omega), fldI_iff.2 ⟨a, ha, h1, h2⟩]
  rfl
theorem cw_flds (f : Int → Int) {a : Nat} (ha : a ∈ l) : flds (cW f h.words (fldI h.words l)) a = (flds h.words a).map f := by
  have e := cw_head R f (fun _ b => b) ha (k := 0) (by omega)
  rw [Nat.add_zero] at e
  unfold flds
  rw [e, List.map_map]
  refine List.map_congr_left fun i hi => ?_
  rw [List.mem_range] at hi
  exact cw_in R f ha (by omega) (by unfold nx; omega)
theorem cw_parts (f : Int → Int) {m : List Nat} (hm : ∀ b, b ∈ m → b ∈ l) (kp rt : List Int) : PartsAt { h with words := cW f h.words (fldI h.words m), kept := kp, roots := rt } l :=
  parts_same R _ kp rt h.hash (cW_length _ _ _) (fun _ ha _ hk => cw_head R f hm ha hk)
theorem fldI_same (f : Int → Int) (j : Nat) : fldI (cW f h.words (fldI h.words l)) l j = fldI h.words l j := by
  rw [Bool.eq_iff_iff, fldI_iff, fldI_iff]
  constructor
  · rintro ⟨a, ha, h1, h2⟩
    rw [cw_nx R f (fun _ b => b) ha] at h2
    exact ⟨a, ha, h1, h2⟩
  · rintro ⟨a, ha, h1, h2⟩
    rw [← cw_nx R f (fun _ b => b) ha] at h2
    exact ⟨a, ha, h1, h2⟩
end

/-- A right heap whose words are changed, where what fits comes to what fits, is right. -/
theorem cw_right {h : Hp} {l : List Nat} (R : RightAt h l) (f : Int → Int) (hf : ∀ x, fitB l x = true → fitB l (f x) = true) :
    RightAt { h with words := cW f h.words (fldI h.words l), roots := h.roots.map f, kept := keptOf (cW f h.words (fldI h.words l)) l } l := by
  obtain ⟨P, N, H, H1, ⟨H2, H3⟩, L, RT, FF, -⟩ := R
  refine ⟨cw_parts P f (fun _ b => b) _ _, ?_, H, ?_, ⟨?_, ?_⟩, by simpa using L, ?_, ?_, rfl⟩
  · intro i hi hu
    show gw (cW f h.words (fldI h.words l)) i = 0
    rw [cW_gw _ _ _ (by rw [P.1]; exact hi), fldI_no (fun a ha h1 h2 => hu (P.used ha (by omega) h2))]
    exact N i hi hu
  · intro a ha
    show 1 ≤ gw (cW f h.words (fldI h.words l)) (a + 2)
    rw [cw_head P f (fun _ b => b) ha (by omega)]
    exact H1 a ha
  · intro a ha
    show gw (cW f h.words (fldI h.words l)) (a + 2) < h.hash
    rw [cw_head P f (fun _ b => b) ha (by omega)]
    exact H2 a ha
  · show (hashesOf (cW f h.words (fldI h.words l)) l).Nodup
    rw [show hashesOf (cW f h.words (fldI h.words l)) l = hashesOf h.words l from List.map_congr_left fun a ha => cw_head P f (fun _ b => b) ha (by omega)]
    exact H3
  · intro x hx
    obtain ⟨y, hy, rfl⟩ := List.mem_map.1 hx
    exact hf y (RT y hy)
  · intro a ha k h1 h2
    rw [show nx (cW f h.words (fldI h.words l)) a = nx h.words a from cw_nx P f (fun _ b => b) ha] at h2
    show fitB l (gw (cW f h.words (fldI h.words l)) k) = true
    rw [cw_in P f ha h1 h2]
    exact hf _ (FF a ha k h1 h2)

noncomputable def beW (f : Int → Int) (h : Hp) : List Int := cW f h.words (fldI h.words (obC h))
noncomputable def beH (f : Int → Int) (h : Hp) : Hp := { h with words := beW f h, roots := h.roots.map f, kept := keptOf (beW f h) (obC h) }
def fwd (a b x : Int) : Int := if x = a then b else x
def exg (a b x : Int) : Int := if x = a then b else if x = b then a else x
noncomputable def befB (h : Hp) (a b : Int) : Bool := okC h && (refB h a && refB h b)
noncomputable def beC (f : Int → Int) (h : Hp) (a b : Int) : Hp := if befB h a b = true then beH f h else zeroH
theorem be_no {f : Int → Int} {h : Hp} {a b : Int} (k : befB h a b = false) : beC f h a b = zeroH := by unfold beC; rw [k]; rfl
theorem be_yes {f : Int → Int} {h : Hp} {a b : Int} (k : befB h a b = true) : beC f h a b = beH f h := by unfold beC; rw [k]; rfl
theorem befB_iff {h : Hp} {a b : Int} : befB h a b = true ↔ okC h = true ∧ refB h a = true ∧ refB h b = true := by unfold befB; simp
theorem ref_fit {h : Hp} {x : Int} (k : refB h x = true) : fitB (obC h) x = true := by
  obtain ⟨k2, a, ha, e⟩ := ref_mem k
  unfold fitB
  rw [k2, e, List.contains_iff_mem.2 (by unfold ints; exact List.mem_map.2 ⟨a, ha, rfl⟩)]
  rfl
theorem be_right {h : Hp} (k : okC h = true) (f : Int → Int) (hf : ∀ x, fitB (obC h) x = true → fitB (obC h) (f x) = true) : RightAt (beH f h) (obC h) := cw_right (c_right k) f hf
theorem fwd_fit {h : Hp} {a b : Int} (hb : refB h b = true) (x : Int) (hx : fitB (obC h) x = true) : fitB (obC h) (fwd a b x) = true := by
  unfold fwd
  split
  · exact ref_fit hb
  · exact hx
theorem exg_fit {h : Hp} {a b : Int} (ha : refB h a = true) (hb : refB h b = true) (x : Int) (hx : fitB (obC h) x = true) : fitB (obC h) (exg a b x) = true := by
  unfold exg
  split
  · exact ref_fit hb
  · split
    · exact ref_fit ha
    · exact hx
theorem beW_length (f : Int → Int) (h : Hp) : (beW f h).length = h.words.length := cW_length _ _ _
theorem be_id {h : Hp} {f : Int → Int} (k : okC h = true) (hf : ∀ x, f x = x) : beH f h = h := by
  have R := c_right k
  have e : beW f h = h.words := cW_id fun j _ _ => hf _
  unfold beH
  rw [e, R.2.2.2.2.2.2.2.2, show h.roots.map f = h.roots from by rw [List.map_congr_left (g := id) (fun x _ => hf x), List.map_id]]
theorem be_short {f : Int → Int} {h : Hp} {a b : Int} : (beC f h a b).words.length ≤ 3200 ∧ (beC f h a b).roots.length ≤ 20 ∧ (beC f h a b).kept.length ≤ 3200 := by
  unfold beC
  split
  · rename_i k
    have R := c_right (befB_iff.1 k).1
    refine ⟨?_, ?_, ?_⟩
    · show (beW f h).length ≤ 3200
      rw [beW_length, R.1.1]
      omega
    · show (h.roots.map f).length ≤ 20
      rw [List.length_map]
      exact R.2.2.2.2.2.1
    · show (keptOf (beW f h) (obC h)).length ≤ 3200
      unfold keptOf
      rw [ints_length]
      have := List.length_filter_le (fun a => decide (a < 2000) && hasY (beW f h) a) (obC h)
      have := ob_short h
      omega
  · exact ⟨by simp [zeroH], by simp [zeroH], by simp [zeroH]⟩

/-- Who has this word in a field. -/
noncomputable def rfC (h : Hp) (x : Int) : List Nat := if okC h = true then (if refB h x = true then (obC h).filter fun a => (flds h.words a).contains x else []) else []
theorem rf_no {h : Hp} {x : Int} (k : okC h = false) : rfC h x = [] := by unfold rfC; rw [k]; rfl
theorem rf_no2 {h : Hp} {x : Int} (k : refB h x = false) : rfC h x = [] := by unfold rfC; rw [k]; simp
theorem rf_yes {h : Hp} {x : Int} (k : okC h = true) (q : refB h x = true) : rfC h x = (obC h).filter fun a => (flds h.words a).contains x := by unfold rfC; rw [k, q]; rfl
theorem rf_short (h : Hp) (x : Int) : (rfC h x).length ≤ 3200 := by
  have := ob_short h
  unfold rfC
  split
  · split
    · have := List.length_filter_le (fun a => (flds h.words a).contains x) (obC h)
      omega
    · simp
  · simp

end Go.Proofs.YthdffigckohpoaaGreat

/- What the laws say of objects that become others, in plain words. -/
namespace Go.Proofs.YthdffigckohpoaaGreat
open Go.RowKit

theorem be_ob {h : Hp} {f : Int → Int} (k : okC h = true) (hf : ∀ x, fitB (obC h) x = true → fitB (obC h) (f x) = true) : okC (beH f h) = true ∧ obC (beH f h) = obC h := c_yes (be_right k f hf)
theorem be_ref {h : Hp} {f : Int → Int} (k : okC h = true) (hf : ∀ x, fitB (obC h) x = true → fitB (obC h) (f x) = true) (x : Int) : refB (beH f h) x = refB h x := by
  unfold refB
  rw [(be_ob k hf).2]
theorem be_be {h : Hp} {f g : Int → Int} (k : okC h = true) (hf : ∀ x, fitB (obC h) x = true → fitB (obC h) (f x) = true) : beH g (beH f h) = beH (fun x => g (f x)) h := by
  have R := c_right k
  have e : beW g (beH f h) = beW (fun x => g (f x)) h := by
    show cW g (beW f h) (fldI (beW f h) (obC (beH f h))) = _
    rw [(be_ob k hf).2]
    refine gw_ext (by simp [cW_length, beW]) fun j hj => ?_
    rw [cW_length, beW_length] at hj
    rw [cW_gw _ _ _ (by rw [beW_length]; exact hj)]
    show (if fldI (cW f h.words (fldI h.words (obC h))) (obC h) j = true then g (gw (cW f h.words (fldI h.words (obC h))) j) else gw (cW f h.words (fldI h.words (obC h))) j) = gw (cW (fun x => g (f x)) h.words (fldI h.words (obC h))) j
    rw [fldI_same R.1, cW_gw _ _ _ hj, cW_gw _ _ _ hj]
    cases fldI h.words (obC h) j <;> rfl
  show ({ beH f h with words := beW g (beH f h), roots := (h.roots.map f).map g, kept := keptOf (beW g (beH f h)) (obC (beH f h)) } : Hp) = _
  rw [e, (be_ob k hf).2, List.map_map]
  rfl
theorem exg_exg (a b x : Int) : exg a b (exg a b x) = x := by
  unfold exg
  by_cases h1 : x = a
  · rw [if_pos h1]
    by_cases h2 : b = a
    · rw [if_pos h2, h1, h2]
    · rw [if_neg h2, if_pos rfl, h1]
  · rw [if_neg h1]
    by_cases h2 : x = b
    · rw [if_pos h2, if_pos rfl, h2]
    · rw [if_neg h2, if_neg h1, if_neg h2]
theorem exg_comm (a b : Int) : exg a b = exg b a := by
  funext x
  unfold exg
  by_cases h1 : x = a
  · rw [if_pos h1]
    by_cases h2 : x = b
    · rw [if_pos h2, ← h1, h2]
    · rw [if_neg h2, if_pos h1]
  · rw [if_neg h1]
    by_cases h2 : x = b
    · rw [if_pos h2, if_pos h2]
    · rw [if_neg h2, if_neg h2, if_neg h1]
theorem exg_iff (a b z : Int) : exg a b z = a ↔ z = b := by
  unfold exg
  by_cases h1 : z = a
  · rw [if_pos h1, h1]
    exact ⟨fun e => e.symm, fun e => e.symm⟩
  · rw [if_neg h1]
    by_cases h2 : z = b
    · rw [if_pos h2]
      exact ⟨fun _ => h2, fun _ => rfl⟩
    · rw [if_neg h2]
      exact ⟨fun e => absurd e h1, fun e => absurd e h2⟩
theorem fwd_iff {a b : Int} (h : a ≠ b) (z : Int) : fwd a b z ≠ a := by
  unfold fwd
  by_cases h1 : z = a
  · rw [if_pos h1]
    exact Ne.symm h
  · rw [if_neg h1]
    exact h1
theorem map_has {f : Int → Int} {l : List Int} {x y : Int} (h : ∀ z, f z = y ↔ z = x) : (l.map f).contains y = l.contains x := by
  rw [Bool.eq_iff_iff, List.contains_iff_mem, List.contains_iff_mem, List.mem_map]
  constructor
  · rintro ⟨z, hz, e⟩
    rw [← (h z).1 e]
    exact hz
  · intro hz
    exact ⟨x, hz, (h x).2 rfl⟩
theorem rf_be {h : Hp} {f : Int → Int} {x y : Int} (k : okC h = true) (hf : ∀ z, fitB (obC h) z = true → fitB (obC h) (f z) = true) (hx : refB h x = true) (hy : refB h y = true) (hi : ∀ z, f z = y ↔ z = x) : rfC (beH f h) y = rfC h x := by
  rw [rf_yes (be_ob k hf).1 (by rw [be_ref k hf]; exact hy), rf_yes k hx, (be_ob k hf).2]
  refine List.filter_congr fun a ha => ?_
  rw [show flds (beH f h).words a = (flds h.words a).map f from cw_flds (c_right k).1 f ha]
  exact map_has hi

/-- All that is said of a heap in which two objects were exchanged. -/
theorem exchanged {h : Hp} {a b : Int} (k : befB h a b = true) :
    okC (beC (exg a b) h a b) = true ∧ (befB (beC (exg a b) h a b) a b = true ∧ beC (exg a b) (beC (exg a b) h a b) a b = h) ∧ (befB h b a = true ∧ beC (exg b a) h b a = beC (exg a b) h a b) ∧ rfC (beC (exg a b) h a b) a = rfC h b := by
  obtain ⟨k1, k2, k3⟩ := befB_iff.1 k
  have hf : ∀ x, fitB (obC h) x = true → fitB (obC h) (exg a b x) = true := fun x hx => exg_fit k2 k3 x hx
  rw [be_yes k]
  have B2 : befB (beH (exg a b) h) a b = true := befB_iff.2 ⟨(be_ob k1 hf).1, by rw [be_ref k1 hf]; exact k2, by rw [be_ref k1 hf]; exact k3⟩
  have B3 : befB h b a = true := befB_iff.2 ⟨k1, k3, k2⟩
  refine ⟨(be_ob k1 hf).1, ⟨B2, ?_⟩, ⟨B3, ?_⟩, rf_be k1 hf k3 k2 (exg_iff a b)⟩
  · rw [be_yes B2, be_be k1 hf]
    exact be_id k1 (exg_exg a b)
  · rw [be_yes B3, exg_comm b a]

/-- All that is said of a heap in which one object was forwarded to another. -/
theorem forwarded {h : Hp} {a b : Int} (k : befB h a b = true) :
    okC (beC (fwd a b) h a b) = true ∧ (∀ z, z ∈ rfC h a ∨ z ∈ rfC h b → z ∈ rfC (beC (fwd a b) h a b) b) ∧ (a ≠ b → rfC (beC (fwd a b) h a b) a = []) := by
  obtain ⟨k1, k2, k3⟩ := befB_iff.1 k
  have hf : ∀ x, fitB (obC h) x = true → fitB (obC h) (fwd a b x) = true := fun x hx => fwd_fit k3 x hx
  rw [be_yes k]
  have O := be_ob k1 hf
  have P := (c_right k1).1
  have e : ∀ x, refB h x = true → rfC (beH (fwd a b) h) x = (obC h).filter fun z => ((flds h.words z).map (fwd a b)).contains x := fun x hx => by
    rw [rf_yes O.1 (by rw [be_ref k1 hf]; exact hx), O.2]
    refine List.filter_congr fun z hz => ?_
    rw [show flds (beH (fwd a b) h).words z = (flds h.words z).map (fwd a b) from cw_flds P (fwd a b) hz]
  refine ⟨O.1, fun z hz => ?_, fun hab => ?_⟩
  · rw [e b k3, List.mem_filter]
    rw [rf_yes k1 k2, rf_yes k1 k3, List.mem_filter, List.mem_filter] at hz
    rcases hz with ⟨h1, h2⟩ | ⟨h1, h2⟩
    · refine ⟨h1, List.contains_iff_mem.2 (List.mem_map.2 ⟨a, List.contains_iff_mem.1 h2, ?_⟩)⟩
      unfold fwd
      rw [if_pos rfl]
    · refine ⟨h1, List.contains_iff_mem.2 (List.mem_map.2 ⟨b, List.contains_iff_mem.1 h2, ?_⟩)⟩
      unfold fwd
      rw [ite_self]
  · rw [e a k2, List.filter_eq_nil_iff]
    intro z _ hc
    obtain ⟨y, _, hy⟩ := List.mem_map.1 (List.contains_iff_mem.1 hc)
    exact fwd_iff hab y hy

end Go.Proofs.YthdffigckohpoaaGreat
