/- The model's public Scavenge. -/
import Derived.Test.YtphkmgalgngjiaaZVScav
namespace Go.Proofs.Ytphkmgalgngjiaa
open Go.RowKit

theorem OS.keepV {w w' : World} {v : Value} {n B S : Nat} (h : Disk.OS w 2 1 v n) (hk : ∀ b, B ≤ b → b < S → w'.heap[b]? = w.heap[b]?) (hS : ∀ b, Disk.rowOf v n = some b → B ≤ b ∧ b < S) : Disk.OS w' 2 1 v n := by
  obtain ⟨ao, cap, rfl, h⟩ := h
  refine ⟨ao, cap, rfl, ?_⟩
  by_cases h0 : n = 0
  · exact .inl h0
  · obtain ⟨b, N, f, rfl, hN, hr⟩ := h.resolve_left h0
    have q := hS b (by unfold Disk.rowOf; rw [if_neg h0]; rfl)
    exact .inr ⟨b, N, f, rfl, hN, hr.of_block (hk b q.1 q.2)⟩
theorem IR.keepV {w w' : World} {v : Value} {l : List Int} (h : IR w v l) (hk : ∀ a n c, v = .slice (some a) n c → 0 < n → w'.heap[a.block]? = w.heap[a.block]?) : IR w' v l := by
  obtain ⟨ao, cap, rfl, hle, h⟩ := h
  refine ⟨ao, cap, rfl, hle, fun i hi => ?_⟩
  obtain ⟨b, o, rfl, hc⟩ := h i hi
  have q : w'.heap[b]? = w.heap[b]? := hk _ _ _ rfl (by omega)
  exact ⟨b, o, rfl, (World.cell?_of_block (w := w) (a := ⟨b, o + i, none⟩) q).trans hc⟩
theorem HN.keepV {B : Nat} {w w' : World} {v : Value} {h : Hp} (k : HN B w v h) (hk : ∀ b, B ≤ b → b < w.heap.size → w'.heap[b]? = w.heap[b]?) : HN B w' v h := by
  obtain ⟨v1, v2, v3, e, ⟨s1, s2, s3⟩, ⟨r1, r2, r3⟩, ⟨b1, b2, b3⟩, r⟩ := k.ex
  have row : ∀ {u : Value} {l : List Int}, IR w u l → Disk.OS w 2 1 u l.length → (∀ b, Disk.rowOf u l.length = some b → B ≤ b) → IR w' u l := fun {u} {l} a s c => by
    refine IR.keepV a fun ad n cp e hn => ?_
    subst e
    have el : n = l.length := by
      obtain ⟨ao, cap, e2, _⟩ := IRs a
      simp only [Value.slice.injEq] at e2
      exact e2.2.1
    have q : Disk.rowOf (.slice (some ad) n cp) l.length = some ad.block := by
      unfold Disk.rowOf
      rw [if_neg (by omega)]
      rfl
    exact hk _ (c _ q) (s.row _ q)
  exact ⟨v1, v2, v3, e, ⟨OS.keepV s1 (S := w.heap.size) hk (fun b q => ⟨b1 b q, s1.row b q⟩), OS.keepV s2 (S := w.heap.size) hk (fun b q => ⟨b2 b q, s2.row b q⟩), OS.keepV s3 (S := w.heap.size) hk (fun b q => ⟨b3 b q, s3.row b q⟩)⟩, ⟨row r1 s1 b1, row r2 s2 b2, row r3 s3 b3⟩, ⟨b1, b2, b3⟩, r⟩
theorem HN.low {B C : Nat} {w : World} {v : Value} {h : Hp} (k : HN B w v h) (hC : C ≤ B) : HN C w v h := by
  obtain ⟨v1, v2, v3, e, s, r, ⟨b1, b2, b3⟩, q⟩ := k.ex
  exact ⟨v1, v2, v3, e, s, r, ⟨fun b hb => Nat.le_trans hC (b1 b hb), fun b hb => Nat.le_trans hC (b2 b hb), fun b hb => Nat.le_trans hC (b3 b hb)⟩, q⟩

set_option maxRecDepth 100000 in
set_option maxHeartbeats 3200000 in
theorem specScavenge_any (v : Value) (h : Hp) (l : List Nat) (R : RightAt h l) (hk : okC h = true) (w : World) (hv : HR w v h) :
    Calls Try.prog 44 #[v] w fun e w' => ((∃ u, e = .returned (.tuple #[u, .bool false]) ∧ HM w.heap.size w' u zeroH ∧ ∃ i, i = (quS h i).q.length ∧ (quS h i).full = true) ∨ (∃ u fs l2, e = .returned (.tuple #[u, .bool true]) ∧ HM w.heap.size w' u (finH h fs (rtL h h.roots.length) (ints (keptS (finW h fs.W) l2))) ∧ SI h l fs ∧ fs.full = false ∧ PartsAt (finH h fs (rtL h h.roots.length) h.kept) l2 ∧ ∃ i, i = fs.q.length ∧ quS h i = fs)) ∧ Below w.heap.size w w' := by
  obtain ⟨v1, v2, v3, rfl, i1, i2, i3⟩ := id hv
  obtain ⟨a1, c1, rfl, -⟩ := IRs i1
  obtain ⟨a2, c2, rfl, -⟩ := IRs i2
  obtain ⟨a3, c3, rfl, -⟩ := IRs i3
  have S0 := CS.new w (.slice a1 h.words.length c1) (.slice a2 h.roots.length c2) (.int .i64 h.old) (.int .i64 h.eden) (.int .i64 h.surv) (.bool h.flip) (.int .i64 h.hash) (.slice a3 h.kept.length c3)
  have hro : h.roots.length ≤ 1000000000000 := by have := R.2.2.2.2.2.1; omega
  have hke : h.kept.length ≤ 1000000000000 := by have := kept_short R; omega
  have C := specHeapOk_c _ h _ (hv.later S0.bel) hro hke
  have SC := fun W (hb : Below w.heap.size w W) => l9Scavenge_any _ h l R W (hv.later hb)
  rw [hk] at C
  clear i1 i2 i3
  go_enter Try.func44, Try.ntmps44
  go_wp2_with fail
  refine C.mono ?_
  rintro e w1 ⟨rfl, hb1⟩
  have S1 := S0.later hb1
  obtain ⟨k0, k1, k2, k3, k4, k5, k6, k7⟩ : _ ∧ _ ∧ _ ∧ _ ∧ _ ∧ _ ∧ _ ∧ _ := ⟨S1.c0, S1.c1, S1.c2, S1.c3, S1.c4, S1.c5, S1.c6, S1.c7⟩
  clear C S0 hb1
  go_wp2_with fail
  refine (SC w1 S1.bel).mono ?_
  rintro e w2 ⟨hr, hb2⟩
  have S2 := S1.later hb2
  have lt1 := S1.lt
  clear SC S1 k0 k1 k2 k3 k4 k5 k6 k7
  obtain ⟨u, q0, b, t, rfl, HU, Z⟩ : ∃ u q0 b t, e = .returned (.tuple #[u, q0, .bool b]) ∧ HM w1.heap.size w2 u t ∧ ((b = false ∧ t = zeroH ∧ ∃ i, i = (quS h i).q.length ∧ (quS h i).full = true) ∨ (b = true ∧ ∃ fs l2, t = finH h fs (rtL h h.roots.length) (ints (keptS (finW h fs.W) l2)) ∧ SI h l fs ∧ fs.full = false ∧ PartsAt (finH h fs (rtL h h.roots.length) h.kept) l2 ∧ ∃ i, i = fs.q.length ∧ quS h i = fs)) := by
    rcases hr with ⟨u, q0, rfl, HU, fu⟩ | ⟨u, qv, fs, l2, rfl, HU, Sf, ff, P, iq, ix⟩
    · exact ⟨u, q0, false, _, rfl, HU, .inl ⟨rfl, rfl, fu⟩⟩
    · exact ⟨u, qv, true, _, rfl, HU, .inr ⟨rfl, fs, l2, rfl, Sf, ff, P, ix⟩⟩
  clear hr
  obtain ⟨u1, u2, u3, rfl, -, ⟨j1, j2, j3⟩, -⟩ := HU.hn.ex
  obtain ⟨p1, e1, rfl, -⟩ := IRs j1
  obtain ⟨p2, e2, rfl, -⟩ := IRs j2
  obtain ⟨p3, e3, rfl, -⟩ := IRs j3
  have al := bel_one w2 (.cells #[.slice none 0 0, .slice none 0 0, .int .i64 0, .int .i64 0, .int .i64 0, .bool false, .int .i64 0, .slice none 0 0] 26)
  have F0 := row_any w2 #[.slice none 0 0, .slice none 0 0, .int .i64 0, .int .i64 0, .int .i64 0, .bool false, .int .i64 0, .slice none 0 0] 26
  have S3 := S2.later al
  have sz1 := S2.bel.size
  have sw1 : w.heap.size + 1 < w1.heap.size := lt1
  have lt2 := S2.lt
  have OKC : (#[(.slice p1 t.words.length e1), (.slice p2 t.roots.length e2), (.int .i64 t.old), (.int .i64 t.eden), (.int .i64 t.surv), (.bool t.flip), (.int .i64 t.hash), (.slice p3 t.kept.length e3)] : Array Value).all (·.oneCell') = true := by simp [Value.oneCell']
  have CSx : ∀ w3, (w2.alloc (.cells #[.slice none 0 0, .slice none 0 0, .int .i64 0, .int .i64 0, .int .i64 0, .bool false, .int .i64 0, .slice none 0 0] 26)).grownBy w3 (some w2.heap.size) → CS w w3 (.slice a1 h.words.length c1) (.slice a2 h.roots.length c2) (.int .i64 h.old) (.int .i64 h.eden) (.int .i64 h.surv) (.bool h.flip) (.int .i64 h.hash) (.slice a3 h.kept.length c3) := fun w3 G => S3.grew (Grew.grown G) (fun q hq => by cases hq; omega)
  clear S3 S2 j1 j2 j3
  go_wp2_with (first
    | ((with_reducible refine store_box _ ?_ (.tmp 4) (.tmp 14) 26 ?_ 26 w2.heap.size 8 #[(.slice p1 t.words.length e1), (.slice p2 t.roots.length e2), (.int .i64 t.old), (.int .i64 t.eden), (.int .i64 t.surv), (.bool t.flip), (.int .i64 t.hash), (.slice p3 t.kept.length e3)] _ ?_ ?_ F0 ?_ ?_ OKC ?_); rfl; rfl; rfl; rfl; rfl; kernel_rfl; intro w3 F3 G3; have k0 : w3.cell? ⟨w2.heap.size, 0, none⟩ = some (.slice p1 t.words.length e1) := F3.cell (i := 0) (by omega); have k1 : w3.cell? ⟨w2.heap.size, 1, none⟩ = some (.slice p2 t.roots.length e2) := F3.cell (i := 1) (by omega); have k2 : w3.cell? ⟨w2.heap.size, 2, none⟩ = some (.int .i64 t.old) := F3.cell (i := 2) (by omega); have k3 : w3.cell? ⟨w2.heap.size, 3, none⟩ = some (.int .i64 t.eden) := F3.cell (i := 3) (by omega); have k4 : w3.cell? ⟨w2.heap.size, 4, none⟩ = some (.int .i64 t.surv) := F3.cell (i := 4) (by omega); have k5 : w3.cell? ⟨w2.heap.size, 5, none⟩ = some (.bool t.flip) := F3.cell (i := 5) (by omega); have k6 : w3.cell? ⟨w2.heap.size, 6, none⟩ = some (.int .i64 t.hash) := F3.cell (i := 6) (by omega); have k7 : w3.cell? ⟨w2.heap.size, 7, none⟩ = some (.slice p3 t.kept.length e3) := F3.cell (i := 7) (by omega); obtain ⟨fr, FR⟩ := (CSx w3 G3).res)
    | ((with_reducible refine store_box _ ?_ (.tmp 2) (.tmp 17) 26 ?_ 26 (w.heap.size + 1) 8 #[(.slice p1 t.words.length e1), (.slice p2 t.roots.length e2), (.int .i64 t.old), (.int .i64 t.eden), (.int .i64 t.surv), (.bool t.flip), (.int .i64 t.hash), (.slice p3 t.kept.length e3)] fr ?_ ?_ FR ?_ ?_ OKC ?_); rfl; rfl; rfl; rfl; rfl; kernel_rfl; intro w4 F4 G4; have r0 : w4.cell? ⟨w.heap.size + 1, 0, none⟩ = some (.slice p1 t.words.length e1) := F4.cell (i := 0) (by omega); have r1 : w4.cell? ⟨w.heap.size + 1, 1, none⟩ = some (.slice p2 t.roots.length e2) := F4.cell (i := 1) (by omega); have r2 : w4.cell? ⟨w.heap.size + 1, 2, none⟩ = some (.int .i64 t.old) := F4.cell (i := 2) (by omega); have r3 : w4.cell? ⟨w.heap.size + 1, 3, none⟩ = some (.int .i64 t.eden) := F4.cell (i := 3) (by omega); have r4 : w4.cell? ⟨w.heap.size + 1, 4, none⟩ = some (.int .i64 t.surv) := F4.cell (i := 4) (by omega); have r5 : w4.cell? ⟨w.heap.size + 1, 5, none⟩ = some (.bool t.flip) := F4.cell (i := 5) (by omega); have r6 : w4.cell? ⟨w.heap.size + 1, 6, none⟩ = some (.int .i64 t.hash) := F4.cell (i := 6) (by omega); have r7 : w4.cell? ⟨w.heap.size + 1, 7, none⟩ = some (.slice p3 t.kept.length e3) := F4.cell (i := 7) (by omega)))
  have S3 := CSx w3 G3
  have l3 := S3.bel.size
  have b3 : Below w2.heap.size w2 w3 := Below.grown al G3 al.size (fun q hq => by cases hq; exact Nat.le_refl _)
  have H3 := HU.later b3
  have H4 : HM w1.heap.size w4 (.agg #[(.slice p1 t.words.length e1), (.slice p2 t.roots.length e2), (.int .i64 t.old), (.int .i64 t.eden), (.int .i64 t.surv), (.bool t.flip), (.int .i64 t.hash), (.slice p3 t.kept.length e3)]) t := H3.keep (fun q q1 q2 => G4.block q q2 (by intro e; cases e; omega))
  have B4 : Below w.heap.size w w4 := Below.grown S3.bel G4 S3.bel.size (fun q hq => by cases hq; omega)
  refine bodyPost_ret (v := .tuple #[.agg #[(.slice p1 t.words.length e1), (.slice p2 t.roots.length e2), (.int .i64 t.old), (.int .i64 t.eden), (.int .i64 t.surv), (.bool t.flip), (.int .i64 t.hash), (.slice p3 t.kept.length e3)], .bool b]) (by simp [results, Try.results44, go_sem, r0, r1, r2, r3, r4, r5, r6, r7]) rfl ⟨?_, B4⟩
  rcases Z with ⟨rfl, rfl, z⟩ | ⟨rfl, fs, l2, rfl, z1, z2, z3, z4⟩
  · exact .inl ⟨_, rfl, H4.low (by omega), z⟩
  · exact .inr ⟨_, fs, l2, rfl, H4.low (by omega), z1, z2, z3, z4⟩

end Go.Proofs.Ytphkmgalgngjiaa
