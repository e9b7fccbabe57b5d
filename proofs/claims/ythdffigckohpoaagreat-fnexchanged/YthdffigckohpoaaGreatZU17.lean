import Derived.Test.YthdffigckohpoaaGreatZU2
import Derived.Test.YthdffigckohpoaaGreatZU5
import Derived.Test.YthdffigckohpoaaGreatZU8
import Derived.Test.YthdffigckohpoaaGreatZBBec
/- The walks of the laws on HeapOk, Young and Header. -/
namespace Go.Proofs.YthdffigckohpoaaGreat
open Go.RowKit

theorem keep16 {W a b : World} {N M : Nat} {u0 u1 u2 u3 u4 u5 u6 u7 x0 x1 x2 x3 x4 x5 x6 x7 : Value} (k : Below a.heap.size a b) (h : Below W.heap.size W a ∧ (a.cell? ⟨N, 0, none⟩ = some u0 ∧ a.cell? ⟨N, 1, none⟩ = some u1 ∧ a.cell? ⟨N, 2, none⟩ = some u2 ∧ a.cell? ⟨N, 3, none⟩ = some u3 ∧ a.cell? ⟨N, 4, none⟩ = some u4 ∧ a.cell? ⟨N, 5, none⟩ = some u5 ∧ a.cell? ⟨N, 6, none⟩ = some u6 ∧ a.cell? ⟨N, 7, none⟩ = some u7) ∧ (a.cell? ⟨M, 0, none⟩ = some x0 ∧ a.cell? ⟨M, 1, none⟩ = some x1 ∧ a.cell? ⟨M, 2, none⟩ = some x2 ∧ a.cell? ⟨M, 3, none⟩ = some x3 ∧ a.cell? ⟨M, 4, none⟩ = some x4 ∧ a.cell? ⟨M, 5, none⟩ = some x5 ∧ a.cell? ⟨M, 6, none⟩ = some x6 ∧ a.cell? ⟨M, 7, none⟩ = some x7)) :
    Below W.heap.size W b ∧ (b.cell? ⟨N, 0, none⟩ = some u0 ∧ b.cell? ⟨N, 1, none⟩ = some u1 ∧ b.cell? ⟨N, 2, none⟩ = some u2 ∧ b.cell? ⟨N, 3, none⟩ = some u3 ∧ b.cell? ⟨N, 4, none⟩ = some u4 ∧ b.cell? ⟨N, 5, none⟩ = some u5 ∧ b.cell? ⟨N, 6, none⟩ = some u6 ∧ b.cell? ⟨N, 7, none⟩ = some u7) ∧ (b.cell? ⟨M, 0, none⟩ = some x0 ∧ b.cell? ⟨M, 1, none⟩ = some x1 ∧ b.cell? ⟨M, 2, none⟩ = some x2 ∧ b.cell? ⟨M, 3, none⟩ = some x3 ∧ b.cell? ⟨M, 4, none⟩ = some x4 ∧ b.cell? ⟨M, 5, none⟩ = some x5 ∧ b.cell? ⟨M, 6, none⟩ = some x6 ∧ b.cell? ⟨M, 7, none⟩ = some x7) :=
  ⟨bel_after h.1 k, (keep8 k ⟨h.1, h.2.1⟩).2, (keep8 k ⟨h.1, h.2.2⟩).2⟩



end Go.Proofs.YthdffigckohpoaaGreat

/- The walk of the law on NewHeap. -/
namespace Go.Proofs.YthdffigckohpoaaGreat
open Go.RowKit

theorem HN.out {B : Nat} {w : World} {v : Value} {h : Hp} (k : HN B w v h) : ∃ a1 c1 a2 c2 a3 c3, v = .agg #[.slice a1 h.words.length c1, .slice a2 h.roots.length c2, .int .i64 h.old, .int .i64 h.eden, .int .i64 h.surv, .bool h.flip, .int .i64 h.hash, .slice a3 h.kept.length c3] ∧
    (Disk.OS w 2 1 (.slice a1 h.words.length c1) h.words.length ∧ Disk.OS w 2 1 (.slice a2 h.roots.length c2) h.roots.length ∧ Disk.OS w 2 1 (.slice a3 h.kept.length c3) h.kept.length) ∧ (IR w (.slice a1 h.words.length c1) h.words ∧ IR w (.slice a2 h.roots.length c2) h.roots ∧ IR w (.slice a3 h.kept.length c3) h.kept) ∧
    ((∀ b, Disk.rowOf (.slice a1 h.words.length c1) h.words.length = some b → B ≤ b) ∧ (∀ b, Disk.rowOf (.slice a2 h.roots.length c2) h.roots.length = some b → B ≤ b) ∧ (∀ b, Disk.rowOf (.slice a3 h.kept.length c3) h.kept.length = some b → B ≤ b)) ∧
    (∀ b, Disk.rowOf (.slice a1 h.words.length c1) h.words.length = some b → Disk.rowOf (.slice a2 h.roots.length c2) h.roots.length ≠ some b) ∧ (∀ b, Disk.rowOf (.slice a1 h.words.length c1) h.words.length = some b → Disk.rowOf (.slice a3 h.kept.length c3) h.kept.length ≠ some b) ∧ (∀ b, Disk.rowOf (.slice a2 h.roots.length c2) h.roots.length = some b → Disk.rowOf (.slice a3 h.kept.length c3) h.kept.length ≠ some b) := by
  obtain ⟨v1, v2, v3, e, os, ir, rest⟩ := k.ex
  obtain ⟨a1, c1, rfl, _⟩ := IRs ir.1
  obtain ⟨a2, c2, rfl, _⟩ := IRs ir.2.1
  obtain ⟨a3, c3, rfl, _⟩ := IRs ir.2.2
  exact ⟨a1, c1, a2, c2, a3, c3, e, os, ir, rest⟩
theorem IR.keep {w w' : World} {v : Value} {l : List Int} (h : IR w v l) (hk : ∀ a n c, v = .slice (some a) n c → 0 < n → w'.heap[a.block]? = w.heap[a.block]?) : IR w' v l := by
  obtain ⟨ao, cap, rfl, hle, h⟩ := h
  refine ⟨ao, cap, rfl, hle, fun i hi => ?_⟩
  obtain ⟨b, o, rfl, hc⟩ := h i hi
  have q : w'.heap[b]? = w.heap[b]? := hk _ _ _ rfl (by omega)
  exact ⟨b, o, rfl, (World.cell?_of_block (w := w) (a := ⟨b, o + i, none⟩) q).trans hc⟩
theorem Bx.keep {w w' : World} {N : Nat} {v1 v2 v3 : Value} {h : Hp} (k : Bx w N v1 v2 v3 h) (hk : w'.heap[N]? = w.heap[N]?) : Bx w' N v1 v2 v3 h := by
  have e : ∀ o v, w.cell? ⟨N, o, none⟩ = some v → w'.cell? ⟨N, o, none⟩ = some v := fun o v q => (World.cell?_of_block (w := w) hk).trans q
  exact ⟨e _ _ k.c0, e _ _ k.c1, e _ _ k.c2, e _ _ k.c3, e _ _ k.c4, e _ _ k.c5, e _ _ k.c6, e _ _ k.c7⟩


end Go.Proofs.YthdffigckohpoaaGreat

/- Forward and Exchange of the program. -/
namespace Go.Proofs.YthdffigckohpoaaGreat
open Go.RowKit

theorem OS.keepY {w w' : World} {v : Value} {n B S : Nat} (h : Disk.OS w 2 1 v n) (hk : ∀ b, B ≤ b → b < S → w'.heap[b]? = w.heap[b]?) (hS : ∀ b, Disk.rowOf v n = some b → B ≤ b ∧ b < S) : Disk.OS w' 2 1 v n := by
  obtain ⟨ao, cap, rfl, h⟩ := h
  refine ⟨ao, cap, rfl, ?_⟩
  by_cases h0 : n = 0
  · exact .inl h0
  · obtain ⟨b, N, f, rfl, hN, hr⟩ := h.resolve_left h0
    have q := hS b (by unfold Disk.rowOf; rw [if_neg h0]; rfl)
    exact .inr ⟨b, N, f, rfl, hN, hr.of_block (hk b q.1 q.2)⟩
theorem IR.keepY {w w' : World} {v : Value} {l : List Int} (h : IR w v l) (hk : ∀ a n c, v = .slice (some a) n c → 0 < n → w'.heap[a.block]? = w.heap[a.block]?) : IR w' v l := by
  obtain ⟨ao, cap, rfl, hle, h⟩ := h
  refine ⟨ao, cap, rfl, hle, fun i hi => ?_⟩
  obtain ⟨b, o, rfl, hc⟩ := h i hi
  have q : w'.heap[b]? = w.heap[b]? := hk _ _ _ rfl (by omega)
  exact ⟨b, o, rfl, (World.cell?_of_block (w := w) (a := ⟨b, o + i, none⟩) q).trans hc⟩
theorem HN.keepY {B : Nat} {w w' : World} {v : Value} {h : Hp} (k : HN B w v h) (hk : ∀ b, B ≤ b → b < w.heap.size → w'.heap[b]? = w.heap[b]?) : HN B w' v h := by
  obtain ⟨v1, v2, v3, e, ⟨s1, s2, s3⟩, ⟨r1, r2, r3⟩, ⟨b1, b2, b3⟩, r⟩ := k.ex
  have row : ∀ {u : Value} {l : List Int}, IR w u l → Disk.OS w 2 1 u l.length → (∀ b, Disk.rowOf u l.length = some b → B ≤ b) → IR w' u l := fun {u} {l} a s c => by
    refine IR.keepY a fun ad n cp e hn => ?_
    subst e
    have el : n = l.length := by
      obtain ⟨ao, cap, e2, _⟩ := IRs a
      simp only [Value.slice.injEq] at e2
      exact e2.2.1
    have q : Disk.rowOf (.slice (some ad) n cp) l.length = some ad.block := by
      unfold Disk.rowOf
      rw [if_neg (by omega)]
      rfl
    exact hk _ (c _ q) (s.row _ q)
  exact ⟨v1, v2, v3, e, ⟨OS.keepY s1 (S := w.heap.size) hk (fun b q => ⟨b1 b q, s1.row b q⟩), OS.keepY s2 (S := w.heap.size) hk (fun b q => ⟨b2 b q, s2.row b q⟩), OS.keepY s3 (S := w.heap.size) hk (fun b q => ⟨b3 b q, s3.row b q⟩)⟩, ⟨row r1 s1 b1, row r2 s2 b2, row r3 s3 b3⟩, ⟨b1, b2, b3⟩, r⟩
theorem HN.lowY {B C : Nat} {w : World} {v : Value} {h : Hp} (k : HN B w v h) (hC : C ≤ B) : HN C w v h := by
  obtain ⟨v1, v2, v3, e, s, r, ⟨b1, b2, b3⟩, q⟩ := k.ex
  exact ⟨v1, v2, v3, e, s, r, ⟨fun b hb => Nat.le_trans hC (b1 b hb), fun b hb => Nat.le_trans hC (b2 b hb), fun b hb => Nat.le_trans hC (b3 b hb)⟩, q⟩


set_option maxRecDepth 100000 in
set_option maxHeartbeats 3200000 in
theorem implForward_c (v : Value) (h : Hp) (a b : Int) (w : World) (hv : HR w v h) (hwo : h.words.length ≤ 1000000000000) (hro : h.roots.length ≤ 1000000000000) (hke : h.kept.length ≤ 1000000000000) :
    Calls Tryz.prog 28 #[v, .int .i64 a, .int .i64 b] w fun e w' => (∃ u, e = .returned (.tuple #[u, .bool (befB h a b)]) ∧ HN w.heap.size w' u (beC (fwd a b) h a b)) ∧ Below w.heap.size w w' := by
  obtain ⟨v1, v2, v3, rfl, i1, i2, i3⟩ := id hv
  obtain ⟨a1, c1, rfl, -⟩ := IRs i1
  obtain ⟨a2, c2, rfl, -⟩ := IRs i2
  obtain ⟨a3, c3, rfl, -⟩ := IRs i3
  have hb0 : Below w.heap.size w ((((w.alloc (.cells #[.slice a1 h.words.length c1, .slice a2 h.roots.length c2, .int .i64 h.old, .int .i64 h.eden, .int .i64 h.surv, .bool h.flip, .int .i64 h.hash, .slice a3 h.kept.length c3] 26)).alloc (.cells #[.int .i64 a] 2)).alloc (.cells #[.int .i64 b] 2)).alloc (.cells #[.slice none 0 0, .slice none 0 0, .int .i64 0, .int .i64 0, .int .i64 0, .bool false, .int .i64 0, .slice none 0 0] 26)) := bel_after (bel_after (bel_one _ _) (bel_one _ _)) (bel_after (bel_one _ _) (bel_one _ _))
  have R0 := row_any (((w.alloc (.cells #[.slice a1 h.words.length c1, .slice a2 h.roots.length c2, .int .i64 h.old, .int .i64 h.eden, .int .i64 h.surv, .bool h.flip, .int .i64 h.hash, .slice a3 h.kept.length c3] 26)).alloc (.cells #[.int .i64 a] 2)).alloc (.cells #[.int .i64 b] 2)) #[.slice none 0 0, .slice none 0 0, .int .i64 0, .int .i64 0, .int .i64 0, .bool false, .int .i64 0, .slice none 0 0] 26
  have hA : ((((w.alloc (.cells #[.slice a1 h.words.length c1, .slice a2 h.roots.length c2, .int .i64 h.old, .int .i64 h.eden, .int .i64 h.surv, .bool h.flip, .int .i64 h.hash, .slice a3 h.kept.length c3] 26)).alloc (.cells #[.int .i64 a] 2)).alloc (.cells #[.int .i64 b] 2)).alloc (.cells #[.slice none 0 0, .slice none 0 0, .int .i64 0, .int .i64 0, .int .i64 0, .bool false, .int .i64 0, .slice none 0 0] 26)).cell? ⟨w.heap.size + 1, 0, none⟩ = some (.int .i64 a) := cell_later (bel_after (bel_one _ _) (bel_one _ _)) (cell_new (w.alloc (.cells #[.slice a1 h.words.length c1, .slice a2 h.roots.length c2, .int .i64 h.old, .int .i64 h.eden, .int .i64 h.surv, .bool h.flip, .int .i64 h.hash, .slice a3 h.kept.length c3] 26)) _ _ _ (by simp) 0 _ rfl)
  have hB : ((((w.alloc (.cells #[.slice a1 h.words.length c1, .slice a2 h.roots.length c2, .int .i64 h.old, .int .i64 h.eden, .int .i64 h.surv, .bool h.flip, .int .i64 h.hash, .slice a3 h.kept.length c3] 26)).alloc (.cells #[.int .i64 a] 2)).alloc (.cells #[.int .i64 b] 2)).alloc (.cells #[.slice none 0 0, .slice none 0 0, .int .i64 0, .int .i64 0, .int .i64 0, .bool false, .int .i64 0, .slice none 0 0] 26)).cell? ⟨w.heap.size + 1 + 1, 0, none⟩ = some (.int .i64 b) := cell_later (bel_one _ _) (cell_new ((w.alloc (.cells #[.slice a1 h.words.length c1, .slice a2 h.roots.length c2, .int .i64 h.old, .int .i64 h.eden, .int .i64 h.surv, .bool h.flip, .int .i64 h.hash, .slice a3 h.kept.length c3] 26)).alloc (.cells #[.int .i64 a] 2)) _ _ _ (by simp) 0 _ rfl)
  have C := become_c 56 (w.heap.size + 1) (w.heap.size + 1 + 1) a b (fwd a b) (by simp) (fun x W ha hb => fwd1_any a b x _ _ W ha hb) _ h _ (hv.later hb0) hwo hro hke hA hB (fun _ hb => fwd_fit hb)
  have sz0 : ((((w.alloc (.cells #[.slice a1 h.words.length c1, .slice a2 h.roots.length c2, .int .i64 h.old, .int .i64 h.eden, .int .i64 h.surv, .bool h.flip, .int .i64 h.hash, .slice a3 h.kept.length c3] 26)).alloc (.cells #[.int .i64 a] 2)).alloc (.cells #[.int .i64 b] 2)).alloc (.cells #[.slice none 0 0, .slice none 0 0, .int .i64 0, .int .i64 0, .int .i64 0, .bool false, .int .i64 0, .slice none 0 0] 26)).heap.size = w.heap.size + 1 + 1 + 1 + 1 := by simp
  have sz1 : (((w.alloc (.cells #[.slice a1 h.words.length c1, .slice a2 h.roots.length c2, .int .i64 h.old, .int .i64 h.eden, .int .i64 h.surv, .bool h.flip, .int .i64 h.hash, .slice a3 h.kept.length c3] 26)).alloc (.cells #[.int .i64 a] 2)).alloc (.cells #[.int .i64 b] 2)).heap.size = w.heap.size + 1 + 1 + 1 := by simp
  rw [sz1] at R0
  rw [sz0] at C
  clear i1 i2 i3
  generalize hr : beC (fwd a b) h a b = r at *
  generalize hb' : befB h a b = rb at *
  clear hr hb' hv
  go_enter Tryz.func28, Tryz.ntmps28
  go_wp2_with fail
  refine C.mono ?_
  rintro e w1 ⟨⟨u, rfl, hn⟩, hb1⟩
  have hbw1 := hb0.trans (hb1.mono (by omega))
  have R1 := R0.of_block (hb1.block _ (by omega))
  have hs1 : w.heap.size + 1 + 1 + 1 + 1 ≤ w1.heap.size := by have := hb1.size; omega
  obtain ⟨o1, k1, o2, k2, o3, k3, rfl, -⟩ := hn.out
  clear C R0 hA hB hb0 hb1 sz0 sz1
  have HNN : Hid (HN (w.heap.size + 1 + 1 + 1 + 1) w1 (.agg #[.slice o1 r.words.length k1, .slice o2 r.roots.length k2, .int .i64 r.old, .int .i64 r.eden, .int .i64 r.surv, .bool r.flip, .int .i64 r.hash, .slice o3 r.kept.length k3]) r) := hn
  clear hn
  generalize r.words.length = n1 at *
  generalize r.roots.length = n2 at *
  generalize r.kept.length = n3 at *
  generalize r.old = z1 at *
  generalize r.eden = z2 at *
  generalize r.surv = z3 at *
  generalize r.flip = z4 at *
  generalize r.hash = z5 at *
  have OKC : (#[.slice o1 n1 k1, .slice o2 n2 k2, .int .i64 z1, .int .i64 z2, .int .i64 z3, .bool z4, .int .i64 z5, .slice o3 n3 k3] : Array Value).all (·.oneCell') = true := by simp [Value.oneCell']
  go_wp2_with ((with_reducible refine store_box _ ?_ (.tmp 6) (.tmp 13) 26 ?_ 26 (w.heap.size + 1 + 1 + 1) 8 #[.slice o1 n1 k1, .slice o2 n2 k2, .int .i64 z1, .int .i64 z2, .int .i64 z3, .bool z4, .int .i64 z5, .slice o3 n3 k3] _ ?_ ?_ R1 ?_ ?_ OKC ?_); rfl; rfl; rfl; rfl; rfl; kernel_rfl; intro wA KA GA; have r0 : wA.cell? ⟨w.heap.size + 1 + 1 + 1, 0, none⟩ = some (.slice o1 n1 k1) := KA.cell (i := 0) (by omega); have r1 : wA.cell? ⟨w.heap.size + 1 + 1 + 1, 1, none⟩ = some (.slice o2 n2 k2) := KA.cell (i := 1) (by omega); have r2 : wA.cell? ⟨w.heap.size + 1 + 1 + 1, 2, none⟩ = some (.int .i64 z1) := KA.cell (i := 2) (by omega); have r3 : wA.cell? ⟨w.heap.size + 1 + 1 + 1, 3, none⟩ = some (.int .i64 z2) := KA.cell (i := 3) (by omega); have r4 : wA.cell? ⟨w.heap.size + 1 + 1 + 1, 4, none⟩ = some (.int .i64 z3) := KA.cell (i := 4) (by omega); have r5 : wA.cell? ⟨w.heap.size + 1 + 1 + 1, 5, none⟩ = some (.bool z4) := KA.cell (i := 5) (by omega); have r6 : wA.cell? ⟨w.heap.size + 1 + 1 + 1, 6, none⟩ = some (.int .i64 z5) := KA.cell (i := 6) (by omega); have r7 : wA.cell? ⟨w.heap.size + 1 + 1 + 1, 7, none⟩ = some (.slice o3 n3 k3) := KA.cell (i := 7) (by omega))
  have BA : Below w.heap.size w wA := Below.grown hbw1 GA hbw1.size (fun q hq => by cases hq; omega)
  have HF := (HNN.out.keepY (w' := wA) (fun z h1 h2 => GA.block z h2 (by intro e; cases e; omega))).lowY (C := w.heap.size) (by omega)
  exact bodyPost_ret (v := .tuple #[.agg #[.slice o1 n1 k1, .slice o2 n2 k2, .int .i64 z1, .int .i64 z2, .int .i64 z3, .bool z4, .int .i64 z5, .slice o3 n3 k3], .bool rb]) (by simp [results, Tryz.results28, go_sem, r0, r1, r2, r3, r4, r5, r6, r7]) rfl ⟨⟨_, rfl, HF⟩, BA⟩

set_option maxRecDepth 100000 in
set_option maxHeartbeats 3200000 in
theorem implExchange_c (v : Value) (h : Hp) (a b : Int) (w : World) (hv : HR w v h) (hwo : h.words.length ≤ 1000000000000) (hro : h.roots.length ≤ 1000000000000) (hke : h.kept.length ≤ 1000000000000) :
    Calls Tryz.prog 24 #[v, .int .i64 a, .int .i64 b] w fun e w' => (∃ u, e = .returned (.tuple #[u, .bool (befB h a b)]) ∧ HN w.heap.size w' u (beC (exg a b) h a b)) ∧ Below w.heap.size w w' := by
  obtain ⟨v1, v2, v3, rfl, i1, i2, i3⟩ := id hv
  obtain ⟨a1, c1, rfl, -⟩ := IRs i1
  obtain ⟨a2, c2, rfl, -⟩ := IRs i2
  obtain ⟨a3, c3, rfl, -⟩ := IRs i3
  have hb0 : Below w.heap.size w ((((w.alloc (.cells #[.slice a1 h.words.length c1, .slice a2 h.roots.length c2, .int .i64 h.old, .int .i64 h.eden, .int .i64 h.surv, .bool h.flip, .int .i64 h.hash, .slice a3 h.kept.length c3] 26)).alloc (.cells #[.int .i64 a] 2)).alloc (.cells #[.int .i64 b] 2)).alloc (.cells #[.slice none 0 0, .slice none 0 0, .int .i64 0, .int .i64 0, .int .i64 0, .bool false, .int .i64 0, .slice none 0 0] 26)) := bel_after (bel_after (bel_one _ _) (bel_one _ _)) (bel_after (bel_one _ _) (bel_one _ _))
  have R0 := row_any (((w.alloc (.cells #[.slice a1 h.words.length c1, .slice a2 h.roots.length c2, .int .i64 h.old, .int .i64 h.eden, .int .i64 h.surv, .bool h.flip, .int .i64 h.hash, .slice a3 h.kept.length c3] 26)).alloc (.cells #[.int .i64 a] 2)).alloc (.cells #[.int .i64 b] 2)) #[.slice none 0 0, .slice none 0 0, .int .i64 0, .int .i64 0, .int .i64 0, .bool false, .int .i64 0, .slice none 0 0] 26
  have hA : ((((w.alloc (.cells #[.slice a1 h.words.length c1, .slice a2 h.roots.length c2, .int .i64 h.old, .int .i64 h.eden, .int .i64 h.surv, .bool h.flip, .int .i64 h.hash, .slice a3 h.kept.length c3] 26)).alloc (.cells #[.int .i64 a] 2)).alloc (.cells #[.int .i64 b] 2)).alloc (.cells #[.slice none 0 0, .slice none 0 0, .int .i64 0, .int .i64 0, .int .i64 0, .bool false, .int .i64 0, .slice none 0 0] 26)).cell? ⟨w.heap.size + 1, 0, none⟩ = some (.int .i64 a) := cell_later (bel_after (bel_one _ _) (bel_one _ _)) (cell_new (w.alloc (.cells #[.slice a1 h.words.length c1, .slice a2 h.roots.length c2, .int .i64 h.old, .int .i64 h.eden, .int .i64 h.surv, .bool h.flip, .int .i64 h.hash, .slice a3 h.kept.length c3] 26)) _ _ _ (by simp) 0 _ rfl)
  have hB : ((((w.alloc (.cells #[.slice a1 h.words.length c1, .slice a2 h.roots.length c2, .int .i64 h.old, .int .i64 h.eden, .int .i64 h.surv, .bool h.flip, .int .i64 h.hash, .slice a3 h.kept.length c3] 26)).alloc (.cells #[.int .i64 a] 2)).alloc (.cells #[.int .i64 b] 2)).alloc (.cells #[.slice none 0 0, .slice none 0 0, .int .i64 0, .int .i64 0, .int .i64 0, .bool false, .int .i64 0, .slice none 0 0] 26)).cell? ⟨w.heap.size + 1 + 1, 0, none⟩ = some (.int .i64 b) := cell_later (bel_one _ _) (cell_new ((w.alloc (.cells #[.slice a1 h.words.length c1, .slice a2 h.roots.length c2, .int .i64 h.old, .int .i64 h.eden, .int .i64 h.surv, .bool h.flip, .int .i64 h.hash, .slice a3 h.kept.length c3] 26)).alloc (.cells #[.int .i64 a] 2)) _ _ _ (by simp) 0 _ rfl)
  have C := become_c 47 (w.heap.size + 1) (w.heap.size + 1 + 1) a b (exg a b) (by simp) (fun x W ha hb => exg1_any a b x _ _ W ha hb) _ h _ (hv.later hb0) hwo hro hke hA hB (fun ha hb => exg_fit ha hb)
  have sz0 : ((((w.alloc (.cells #[.slice a1 h.words.length c1, .slice a2 h.roots.length c2, .int .i64 h.old, .int .i64 h.eden, .int .i64 h.surv, .bool h.flip, .int .i64 h.hash, .slice a3 h.kept.length c3] 26)).alloc (.cells #[.int .i64 a] 2)).alloc (.cells #[.int .i64 b] 2)).alloc (.cells #[.slice none 0 0, .slice none 0 0, .int .i64 0, .int .i64 0, .int .i64 0, .bool false, .int .i64 0, .slice none 0 0] 26)).heap.size = w.heap.size + 1 + 1 + 1 + 1 := by simp
  have sz1 : (((w.alloc (.cells #[.slice a1 h.words.length c1, .slice a2 h.roots.length c2, .int .i64 h.old, .int .i64 h.eden, .int .i64 h.surv, .bool h.flip, .int .i64 h.hash, .slice a3 h.kept.length c3] 26)).alloc (.cells #[.int .i64 a] 2)).alloc (.cells #[.int .i64 b] 2)).heap.size = w.heap.size + 1 + 1 + 1 := by simp
  rw [sz1] at R0
  rw [sz0] at C
  clear i1 i2 i3
  generalize hr : beC (exg a b) h a b = r at *
  generalize hb' : befB h a b = rb at *
  clear hr hb' hv
  go_enter Tryz.func24, Tryz.ntmps24
  go_wp2_with fail
  refine C.mono ?_
  rintro e w1 ⟨⟨u, rfl, hn⟩, hb1⟩
  have hbw1 := hb0.trans (hb1.mono (by omega))
  have R1 := R0.of_block (hb1.block _ (by omega))
  have hs1 : w.heap.size + 1 + 1 + 1 + 1 ≤ w1.heap.size := by have := hb1.size; omega
  obtain ⟨o1, k1, o2, k2, o3, k3, rfl, -⟩ := hn.out
  clear C R0 hA hB hb0 hb1 sz0 sz1
  have HNN : Hid (HN (w.heap.size + 1 + 1 + 1 + 1) w1 (.agg #[.slice o1 r.words.length k1, .slice o2 r.roots.length k2, .int .i64 r.old, .int .i64 r.eden, .int .i64 r.surv, .bool r.flip, .int .i64 r.hash, .slice o3 r.kept.length k3]) r) := hn
  clear hn
  generalize r.words.length = n1 at *
  generalize r.roots.length = n2 at *
  generalize r.kept.length = n3 at *
  generalize r.old = z1 at *
  generalize r.eden = z2 at *
  generalize r.surv = z3 at *
  generalize r.flip = z4 at *
  generalize r.hash = z5 at *
  have OKC : (#[.slice o1 n1 k1, .slice o2 n2 k2, .int .i64 z1, .int .i64 z2, .int .i64 z3, .bool z4, .int .i64 z5, .slice o3 n3 k3] : Array Value).all (·.oneCell') = true := by simp [Value.oneCell']
  go_wp2_with ((with_reducible refine store_box _ ?_ (.tmp 6) (.tmp 13) 26 ?_ 26 (w.heap.size + 1 + 1 + 1) 8 #[.slice o1 n1 k1, .slice o2 n2 k2, .int .i64 z1, .int .i64 z2, .int .i64 z3, .bool z4, .int .i64 z5, .slice o3 n3 k3] _ ?_ ?_ R1 ?_ ?_ OKC ?_); rfl; rfl; rfl; rfl; rfl; kernel_rfl; intro wA KA GA; have r0 : wA.cell? ⟨w.heap.size + 1 + 1 + 1, 0, none⟩ = some (.slice o1 n1 k1) := KA.cell (i := 0) (by omega); have r1 : wA.cell? ⟨w.heap.size + 1 + 1 + 1, 1, none⟩ = some (.slice o2 n2 k2) := KA.cell (i := 1) (by omega); have r2 : wA.cell? ⟨w.heap.size + 1 + 1 + 1, 2, none⟩ = some (.int .i64 z1) := KA.cell (i := 2) (by omega); have r3 : wA.cell? ⟨w.heap.size + 1 + 1 + 1, 3, none⟩ = some (.int .i64 z2) := KA.cell (i := 3) (by omega); have r4 : wA.cell? ⟨w.heap.size + 1 + 1 + 1, 4, none⟩ = some (.int .i64 z3) := KA.cell (i := 4) (by omega); have r5 : wA.cell? ⟨w.heap.size + 1 + 1 + 1, 5, none⟩ = some (.bool z4) := KA.cell (i := 5) (by omega); have r6 : wA.cell? ⟨w.heap.size + 1 + 1 + 1, 6, none⟩ = some (.int .i64 z5) := KA.cell (i := 6) (by omega); have r7 : wA.cell? ⟨w.heap.size + 1 + 1 + 1, 7, none⟩ = some (.slice o3 n3 k3) := KA.cell (i := 7) (by omega))
  have BA : Below w.heap.size w wA := Below.grown hbw1 GA hbw1.size (fun q hq => by cases hq; omega)
  have HF := (HNN.out.keepY (w' := wA) (fun z h1 h2 => GA.block z h2 (by intro e; cases e; omega))).lowY (C := w.heap.size) (by omega)
  exact bodyPost_ret (v := .tuple #[.agg #[.slice o1 n1 k1, .slice o2 n2 k2, .int .i64 z1, .int .i64 z2, .int .i64 z3, .bool z4, .int .i64 z5, .slice o3 n3 k3], .bool rb]) (by simp [results, Tryz.results24, go_sem, r0, r1, r2, r3, r4, r5, r6, r7]) rfl ⟨⟨_, rfl, HF⟩, BA⟩

end Go.Proofs.YthdffigckohpoaaGreat
