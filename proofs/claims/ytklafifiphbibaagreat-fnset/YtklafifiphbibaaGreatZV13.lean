
import Derived.Test.YtklafifiphbibaaGreatZVScav
import Derived.Test.YtklafifiphbibaaGreatZV5
import Derived.Test.YtklafifiphbibaaGreatZV10
import Derived.Test.YtklafifiphbibaaGreatZV12
/- The model's public Scavenge. -/
namespace Go.Proofs.YtklafifiphbibaaGreat
open Go.RowKit

theorem HN.low {B C : Nat} {w : World} {v : Value} {h : Hp} (k : HN B w v h) (hC : C ≤ B) : HN C w v h := by
  obtain ⟨v1, v2, v3, e, s, r, ⟨b1, b2, b3⟩, q⟩ := k.ex
  exact ⟨v1, v2, v3, e, s, r, ⟨fun b hb => Nat.le_trans hC (b1 b hb), fun b hb => Nat.le_trans hC (b2 b hb), fun b hb => Nat.le_trans hC (b3 b hb)⟩, q⟩

set_option maxRecDepth 100000 in
set_option maxHeartbeats 3200000 in
theorem specScavenge_any (v : Value) (h : Hp) (l : List Nat) (R : RightAt h l) (hk : okC h = true) (w : World) (hv : HR w v h) :
    Calls Tryz.prog 91 #[v] w fun e w' => ((∃ u, e = .returned (.tuple #[u, .bool false]) ∧ HM w.heap.size w' u zeroH ∧ ∃ i, i = (quS h i).q.length ∧ (quS h i).full = true) ∨ (∃ u fs l2, e = .returned (.tuple #[u, .bool true]) ∧ HM w.heap.size w' u (finH h fs (rtL h h.roots.length) (ints (keptS (finW h fs.W) l2))) ∧ SI h l fs ∧ fs.full = false ∧ PartsAt (finH h fs (rtL h h.roots.length) h.kept) l2 ∧ ∃ i, i = fs.q.length ∧ quS h i = fs)) ∧ Below w.heap.size w w' := by
  obtain ⟨v1, v2, v3, rfl, i1, i2, i3⟩ := id hv
  obtain ⟨a1, c1, rfl, -⟩ := IRs i1
  obtain ⟨a2, c2, rfl, -⟩ := IRs i2
  obtain ⟨a3, c3, rfl, -⟩ := IRs i3
  have S0 := CS.new w (.slice a1 h.words.length c1) (.slice a2 h.roots.length c2) (.int .i64 h.old) (.int .i64 h.eden) (.int .i64 h.surv) (.bool h.flip) (.int .i64 h.hash) (.slice a3 h.kept.length c3)
  have hro : h.roots.length ≤ 1000000000000 := by have := R.2.2.2.2.2.1; omega
  have hke : h.kept.length ≤ 1000000000000 := by have := kept_short R; omega
  have C := specHeapOk_c _ h _ (hv.later S0.bel) hro hke
  have SC := fun W (hb : Below w.heap.size w W) => l9Scavenge_any _ h l R W (hv.later hb)
  rw [hk] at C
  clear i1 i2 i3
  go_enter Tryz.func91, Tryz.ntmps91
  go_wp2_with fail
  refine C.mono ?_
  rintro e w1 ⟨rfl, hb1⟩
  have S1 := S0.later hb1
  obtain ⟨k0, k1, k2, k3, k4, k5, k6, k7⟩ : _ ∧ _ ∧ _ ∧ _ ∧ _ ∧ _ ∧ _ ∧ _ := ⟨S1.c0, S1.c1, S1.c2, S1.c3, S1.c4, S1.c5, S1.c6, S1.c7⟩
  clear C S0 hb1
  go_wp2_with fail
  refine (SC w1 S1.bel).mono ?_
  rintro e w2 ⟨hr, hb2⟩
  have S2 := S1.later hb2
  have lt1 := S1.lt
  clear SC S1 k0 k1 k2 k3 k4 k5 k6 k7
  obtain ⟨u, q0, b, t, rfl, HU, Z⟩ : ∃ u q0 b t, e = .returned (.tuple #[u, q0, .bool b]) ∧ HM w1.heap.size w2 u t ∧ ((b = false ∧ t = zeroH ∧ ∃ i, i = (quS h i).q.length ∧ (quS h i).full = true) ∨ (b = true ∧ ∃ fs l2, t = finH h fs (rtL h h.roots.length) (ints (keptS (finW h fs.W) l2)) ∧ SI h l fs ∧ fs.full = false ∧ PartsAt (finH h fs (rtL h h.roots.length) h.kept) l2 ∧ ∃ i, i = fs.q.length ∧ quS h i = fs)) := by
    rcases hr with ⟨u, q0, rfl, HU, fu⟩ | ⟨u, qv, fs, l2, rfl, HU, Sf, ff, P, iq, ix⟩
    · exact ⟨u, q0, false, _, rfl, HU, .inl ⟨rfl, rfl, fu⟩⟩
    · exact ⟨u, qv, true, _, rfl, HU, .inr ⟨rfl, fs, l2, rfl, Sf, ff, P, ix⟩⟩
  clear hr
  obtain ⟨u1, u2, u3, rfl, -, ⟨j1, j2, j3⟩, -⟩ := HU.hn.ex
  obtain ⟨p1, e1, rfl, -⟩ := IRs j1
  obtain ⟨p2, e2, rfl, -⟩ := IRs j2
  obtain ⟨p3, e3, rfl, -⟩ := IRs j3
  have al := bel_one w2 (.cells #[.slice none 0 0, .slice none 0 0, .int .i64 0, .int .i64 0, .int .i64 0, .bool false, .int .i64 0, .slice none 0 0] 26)
  have F0 := row_any w2 #[.slice none 0 0, .slice none 0 0, .int .i64 0, .int .i64 0, .int .i64 0, .bool false, .int .i64 0, .slice none 0 0] 26
  have S3 := S2.later al
  have sz1 := S2.bel.size
  have sw1 : w.heap.size + 1 < w1.heap.size := lt1
  have lt2 := S2.lt
  have OKC : (#[(.slice p1 t.words.length e1), (.slice p2 t.roots.length e2), (.int .i64 t.old), (.int .i64 t.eden), (.int .i64 t.surv), (.bool t.flip), (.int .i64 t.hash), (.slice p3 t.kept.length e3)] : Array Value).all (·.oneCell') = true := by simp [Value.oneCell']
  have CSx : ∀ w3, (w2.alloc (.cells #[.slice none 0 0, .slice none 0 0, .int .i64 0, .int .i64 0, .int .i64 0, .bool false, .int .i64 0, .slice none 0 0] 26)).grownBy w3 (some w2.heap.size) → CS w w3 (.slice a1 h.words.length c1) (.slice a2 h.roots.length c2) (.int .i64 h.old) (.int .i64 h.eden) (.int .i64 h.surv) (.bool h.flip) (.int .i64 h.hash) (.slice a3 h.kept.length c3) := fun w3 G => S3.grew (Grew.grown G) (fun q hq => by cases hq; omega)
  clear S3 S2 j1 j2 j3
  go_wp2_with (first
    | ((with_reducible refine store_box _ ?_ (.tmp 4) (.tmp 14) 26 ?_ 26 w2.heap.size 8 #[(.slice p1 t.words.length e1), (.slice p2 t.roots.length e2), (.int .i64 t.old), (.int .i64 t.eden), (.int .i64 t.surv), (.bool t.flip), (.int .i64 t.hash), (.slice p3 t.kept.length e3)] _ ?_ ?_ F0 ?_ ?_ OKC ?_); rfl; rfl; rfl; rfl; rfl; kernel_rfl; intro w3 F3 G3; have k0 : w3.cell? ⟨w2.heap.size, 0, none⟩ = some (.slice p1 t.words.length e1) := F3.cell (i := 0) (by omega); have k1 : w3.cell? ⟨w2.heap.size, 1, none⟩ = some (.slice p2 t.roots.length e2) := F3.cell (i := 1) (by omega); have k2 : w3.cell? ⟨w2.heap.size, 2, none⟩ = some (.int .i64 t.old) := F3.cell (i := 2) (by omega); have k3 : w3.cell? ⟨w2.heap.size, 3, none⟩ = some (.int .i64 t.eden) := F3.cell (i := 3) (by omega); have k4 : w3.cell? ⟨w2.heap.size, 4, none⟩ = some (.int .i64 t.surv) := F3.cell (i := 4) (by omega); have k5 : w3.cell? ⟨w2.heap.size, 5, none⟩ = some (.bool t.flip) := F3.cell (i := 5) (by omega); have k6 : w3.cell? ⟨w2.heap.size, 6, none⟩ = some (.int .i64 t.hash) := F3.cell (i := 6) (by omega); have k7 : w3.cell? ⟨w2.heap.size, 7, none⟩ = some (.slice p3 t.kept.length e3) := F3.cell (i := 7) (by omega); obtain ⟨fr, FR⟩ := (CSx w3 G3).res)
    | ((with_reducible refine store_box _ ?_ (.tmp 2) (.tmp 17) 26 ?_ 26 (w.heap.size + 1) 8 #[(.slice p1 t.words.length e1), (.slice p2 t.roots.length e2), (.int .i64 t.old), (.int .i64 t.eden), (.int .i64 t.surv), (.bool t.flip), (.int .i64 t.hash), (.slice p3 t.kept.length e3)] fr ?_ ?_ FR ?_ ?_ OKC ?_); rfl; rfl; rfl; rfl; rfl; kernel_rfl; intro w4 F4 G4; have r0 : w4.cell? ⟨w.heap.size + 1, 0, none⟩ = some (.slice p1 t.words.length e1) := F4.cell (i := 0) (by omega); have r1 : w4.cell? ⟨w.heap.size + 1, 1, none⟩ = some (.slice p2 t.roots.length e2) := F4.cell (i := 1) (by omega); have r2 : w4.cell? ⟨w.heap.size + 1, 2, none⟩ = some (.int .i64 t.old) := F4.cell (i := 2) (by omega); have r3 : w4.cell? ⟨w.heap.size + 1, 3, none⟩ = some (.int .i64 t.eden) := F4.cell (i := 3) (by omega); have r4 : w4.cell? ⟨w.heap.size + 1, 4, none⟩ = some (.int .i64 t.surv) := F4.cell (i := 4) (by omega); have r5 : w4.cell? ⟨w.heap.size + 1, 5, none⟩ = some (.bool t.flip) := F4.cell (i := 5) (by omega); have r6 : w4.cell? ⟨w.heap.size + 1, 6, none⟩ = some (.int .i64 t.hash) := F4.cell (i := 6) (by omega); have r7 : w4.cell? ⟨w.heap.size + 1, 7, none⟩ = some (.slice p3 t.kept.length e3) := F4.cell (i := 7) (by omega)))
  have S3 := CSx w3 G3
  have l3 := S3.bel.size
  have b3 : Below w2.heap.size w2 w3 := Below.grown al G3 al.size (fun q hq => by cases hq; exact Nat.le_refl _)
  have H3 := HU.later b3
  have H4 : HM w1.heap.size w4 (.agg #[(.slice p1 t.words.length e1), (.slice p2 t.roots.length e2), (.int .i64 t.old), (.int .i64 t.eden), (.int .i64 t.surv), (.bool t.flip), (.int .i64 t.hash), (.slice p3 t.kept.length e3)]) t := H3.keep (fun q q1 q2 => G4.block q q2 (by intro e; cases e; omega))
  have B4 : Below w.heap.size w w4 := Below.grown S3.bel G4 S3.bel.size (fun q hq => by cases hq; omega)
  refine bodyPost_ret (v := .tuple #[.agg #[(.slice p1 t.words.length e1), (.slice p2 t.roots.length e2), (.int .i64 t.old), (.int .i64 t.eden), (.int .i64 t.surv), (.bool t.flip), (.int .i64 t.hash), (.slice p3 t.kept.length e3)], .bool b]) (by simp [results, Tryz.results91, go_sem, r0, r1, r2, r3, r4, r5, r6, r7]) rfl ⟨?_, B4⟩
  rcases Z with ⟨rfl, rfl, z⟩ | ⟨rfl, fs, l2, rfl, z1, z2, z3, z4⟩
  · exact .inl ⟨_, rfl, H4.low (by omega), z⟩
  · exact .inr ⟨_, fs, l2, rfl, H4.low (by omega), z1, z2, z3, z4⟩

end Go.Proofs.YtklafifiphbibaaGreat

/- A heap with a new object is right. -/
namespace Go.Proofs.YtklafifiphbibaaGreat
open Go.RowKit

theorem fit_more {l l' : List Nat} (h : ∀ a, a ∈ l → a ∈ l') {x : Int} (k : fitB l x = true) : fitB l' x = true := by
  unfold fitB at k ⊢
  rw [Bool.or_eq_true, Bool.and_eq_true] at k ⊢
  rcases k with k | ⟨k1, k2⟩
  · exact .inl k
  · refine .inr ⟨k1, ?_⟩
    rw [List.contains_iff_mem] at k2 ⊢
    obtain ⟨a, ha, e⟩ := List.mem_map.1 k2
    exact List.mem_map.2 ⟨a, h a ha, e⟩
theorem fit_zero (l : List Nat) : fitB l 0 = true := by
  unfold fitB
  rw [show kindW 0 = 1 from by decide]
  rfl
theorem hash_inj {W : List Int} {l : List Nat} (h : (hashesOf W l).Nodup) {a b : Nat} (ha : a ∈ l) (hb : b ∈ l) (e : gw W (a + 2) = gw W (b + 2)) : a = b := by
  unfold hashesOf at h
  rw [List.nodup_iff_pairwise_ne, List.pairwise_map, List.pairwise_iff_getElem] at h
  obtain ⟨i, hi, ei⟩ := List.getElem_of_mem ha
  obtain ⟨j, hj, ej⟩ := List.getElem_of_mem hb
  rcases Nat.lt_trichotomy i j with q | q | q
  · have := h i j hi hj q
    rw [ei, ej] at this
    exact absurd e this
  · subst q
    exact ei.symm.trans ej
  · have := h j i hj hi q
    rw [ei, ej] at this
    exact absurd e.symm this
theorem new_right {h : Hp} {k n : Int} (q : newB h k n = true) : ∃ l', RightAt (newHp h k n) l' ∧ h.eden.toNat ∈ l' ∧ (∀ a, a ∈ obC h → a ∈ l') ∧ l'.length = (obC h).length + 1 := by
  unfold newB at q
  rw [Bool.and_eq_true, Bool.and_eq_true, Bool.and_eq_true, Bool.and_eq_true] at q
  obtain ⟨hk, q1, q2, q3, q4⟩ := q
  have R := c_right hk
  have k1 := of_decide_eq_true q1
  have k2 := of_decide_eq_true q2
  have k4 := of_decide_eq_true q4
  have k3 : ¬ h.hash = 1000000000 := by simpa using q3
  have ok := ok_len hk
  have nz := fun i => ok_nought hk i
  obtain ⟨m, hm⟩ : ∃ m : Nat, h.eden = m := ⟨h.eden.toNat, by omega⟩
  obtain ⟨p, z, hh, h1, h2, r1, r2, f, kp⟩ := id R
  have so := ((right_iff R.1.1).1 R).1.sorted
  have G : ∀ j, gw (newHp h k n).words j = if j = m + 2 then h.hash else if j = m + 1 then k else if j = m then n else gw h.words j := fun j => by
    show gw (((h.words.set h.eden.toNat n).set (h.eden.toNat + 1) k).set (h.eden.toNat + 2) h.hash) j = _
    rw [hm, Int.toNat_natCast, gw_set _ _ _ _ (by simp; omega), gw_set _ _ _ _ (by simp; omega), gw_set _ _ _ _ (by omega)]
  have O : ∀ j, (j < m ∨ m + 3 ≤ j) → gw (newHp h k n).words j = gw h.words j := fun j hj => by
    rw [G, if_neg (by omega), if_neg (by omega), if_neg (by omega)]
  obtain ⟨_, p0, p1, p2, n0, n1, n2, g0, g1, g2, el⟩ := p
  rw [hm, Int.toNat_natCast] at g1
  have hs : 2600 ≤ survB h.flip := by unfold survB; split <;> omega
  have G0 := goes_same (V := (newHp h k n).words) g0 (fun a ha j hj => O _ (.inl (by have := goes_in g0 ha; omega)))
  have G1 := goes_same (V := (newHp h k n).words) g1 (fun a ha j hj => O _ (.inl (by have := goes_in g1 ha; omega)))
  have G2 := goes_same (V := (newHp h k n).words) g2 (fun a ha j hj => O _ (.inr (by have := goes_in g2 ha; omega)))
  have em : it (newHp h k n).words 2000 n1 = m := G1.1.1
  have gm : gw (newHp h k n).words m = n := by rw [G, if_neg (by omega), if_neg (by omega), if_pos rfl]
  have nxm : nx (newHp h k n).words m = m + 4 + n.toNat := by unfold nx; rw [gm]
  have g3 : gw (newHp h k n).words (m + 3) = 0 := by rw [O _ (.inr (by omega))]; exact nz (m + 3) (by omega) (by omega)
  have E1 : its (newHp h k n).words 2000 (n1 + 1) = its h.words 2000 n1 ++ [m] := by rw [its_succ, em, G1.2]
  have P' : PartsAt (newHp h k n) (its h.words 0 n0 ++ (its h.words 2000 n1 ++ [m]) ++ its h.words (survB h.flip) n2) := by
    refine ⟨by show (((h.words.set _ _).set _ _).set _ _).length = 3200; simp; exact ok.1, p0, ⟨by show 2000 ≤ h.eden + 4 + n; omega, by show h.eden + 4 + n ≤ 2600; omega⟩, p2, n0, n1 + 1, n2, G0.1, ?_, G2.1, ?_⟩
    · show Goes (newHp h k n).words 2000 (h.eden + 4 + n).toNat (n1 + 1)
      refine ⟨?_, fun i hi => ?_⟩
      · show nx _ (it _ 2000 n1) = _
        rw [em, nxm]
        omega
      · rcases Nat.lt_or_ge i n1 with c | c
        · exact G1.1.2 i c
        · obtain rfl : i = n1 := by omega
          rw [em]
          unfold headB
          rw [gm, g3, G, if_neg (by omega), if_pos rfl]
          simp
          omega
    · show _ = its (newHp h k n).words 0 n0 ++ its (newHp h k n).words 2000 (n1 + 1) ++ its (newHp h k n).words (survB h.flip) n2
      rw [G0.2, E1, G2.2]
  have mem : ∀ a, a ∈ its h.words 0 n0 ++ (its h.words 2000 n1 ++ [m]) ++ its h.words (survB h.flip) n2 ↔ a ∈ obC h ∨ a = m := fun a => by
    rw [el]
    simp only [List.mem_append, List.mem_singleton]
    constructor
    · rintro ((q | q | q) | q)
      · exact .inl (.inl (.inl q))
      · exact .inl (.inl (.inr q))
      · exact .inr q
      · exact .inl (.inr q)
    · rintro (((q | q) | q) | q)
      · exact .inl (.inl q)
      · exact .inl (.inr (.inl q))
      · exact .inr q
      · exact .inl (.inr (.inr q))
  have out : ∀ a, a ∈ obC h → nx h.words a ≤ m ∨ m + 3 ≤ a := fun a ha => by
    rw [el, List.mem_append, List.mem_append] at ha
    rcases ha with (ha | ha) | ha
    · have := goes_in g0 ha; omega
    · have := goes_in g1 ha; omega
    · have := goes_in g2 ha; omega
  have cell : ∀ a, a ∈ obC h → ∀ j, a ≤ j → j < nx h.words a → gw (newHp h k n).words j = gw h.words j := fun a ha j j1 j2 => O j (by have := out a ha; omega)
  have nxs : ∀ a, a ∈ obC h → nx (newHp h k n).words a = nx h.words a := fun a ha => by
    have e : nx h.words a = a + 4 + (gw h.words a).toNat := rfl
    unfold nx
    rw [cell a ha a (Nat.le_refl _) (by omega)]
  have hsh : ∀ a, a ∈ obC h → gw (newHp h k n).words (a + 2) = gw h.words (a + 2) := fun a ha => by
    have e : nx h.words a = a + 4 + (gw h.words a).toNat := rfl
    exact cell a ha _ (by omega) (by omega)
  have hsm : gw (newHp h k n).words (m + 2) = h.hash := by rw [G, if_pos rfl]
  have Z' : noughts (newHp h k n) := fun i hi hn => by
    have hn' : ¬ inUse h i := fun u => hn (by
      unfold inUse at u ⊢
      show (i : Int) < h.old ∨ (2000 ≤ i ∧ (i : Int) < h.eden + 4 + n) ∨ (survB h.flip ≤ i ∧ (i : Int) < h.surv)
      omega)
    have hm' : ¬ (m ≤ i ∧ i < m + 3) := fun u => hn (by
      unfold inUse
      show (i : Int) < h.old ∨ (2000 ≤ i ∧ (i : Int) < h.eden + 4 + n) ∨ (survB h.flip ≤ i ∧ (i : Int) < h.surv)
      omega)
    rw [O i (by omega)]
    exact z i hi hn'
  have H1 : ∀ a, a ∈ its h.words 0 n0 ++ (its h.words 2000 n1 ++ [m]) ++ its h.words (survB h.flip) n2 → 1 ≤ gw (newHp h k n).words (a + 2) := fun a ha => by
    rcases (mem a).1 ha with q | rfl
    · rw [hsh a q]; exact h1 a q
    · rw [hsm]; exact hh.1
  have so' := ((laid_iff P'.1).2 ⟨P', Z', H1⟩).sorted
  refine ⟨_, ⟨P', Z', ⟨by show 1 ≤ h.hash + 1; omega, by show h.hash + 1 ≤ 1000000000; omega⟩, H1, ⟨fun a ha => ?_, ?_⟩, r1, fun x hx => fit_more (fun a ha => (mem a).2 (.inl ha)) (r2 x hx), fun a ha => ?_, ?_⟩, by rw [hm, Int.toNat_natCast]; exact (mem m).2 (.inr rfl), fun a ha => (mem a).2 (.inl ha), ?_⟩
  · show gw (newHp h k n).words (a + 2) < h.hash + 1
    rcases (mem a).1 ha with q | rfl
    · rw [hsh a q]; have := h2.1 a q; omega
    · rw [hsm]; omega
  · unfold hashesOf
    rw [List.nodup_iff_pairwise_ne, List.pairwise_map]
    refine List.Pairwise.imp_of_mem (fun {a b} ha hb lt e => ?_) so'
    rcases (mem a).1 ha with qa | rfl <;> rcases (mem b).1 hb with qb | rfl
    · rw [hsh a qa, hsh b qb] at e
      have := hash_inj h2.2 qa qb e
      omega
    · rw [hsh a qa, hsm] at e
      have := h2.1 a qa
      omega
    · rw [hsh b qb, hsm] at e
      have := h2.1 b qb
      omega
    · omega
  · intro j j1 j2
    rcases (mem a).1 ha with q | rfl
    · rw [nxs a q] at j2
      rw [cell a q j (by omega) j2]
      exact fit_more (fun b hb => (mem b).2 (.inl hb)) (f a q j j1 j2)
    · rw [nxm] at j2
      rw [O j (.inr (by omega)), show gw h.words j = 0 from nz j (by omega) (by omega)]
      exact fit_zero _
  · show keptOf (newHp h k n).words _ = h.kept
    rw [← kp]
    have same : ∀ l : List Nat, (∀ a, a ∈ l → a ∈ obC h) → l.filter (fun a => decide (a < 2000) && hasY (newHp h k n).words a) = l.filter (fun a => decide (a < 2000) && hasY h.words a) := fun l hl => by
      refine List.filter_congr fun a ha => ?_
      have qa := hl a ha
      have e : hasY (newHp h k n).words a = hasY h.words a := by
        unfold hasY flds
        have e0 : nx h.words a = a + 4 + (gw h.words a).toNat := rfl
        rw [cell a qa a (Nat.le_refl _) (by omega)]
        congr 1
        refine List.map_congr_left fun i hi => ?_
        rw [List.mem_range] at hi
        exact cell a qa _ (by omega) (by omega)
      rw [e]
    unfold keptOf
    rw [el]
    simp only [List.filter_append]
    rw [same (its h.words 0 n0) (fun a ha => by rw [el]; simp [ha]), same (its h.words 2000 n1) (fun a ha => by rw [el]; simp [ha]), same (its h.words (survB h.flip) n2) (fun a ha => by rw [el]; simp [ha])]
    have : [m].filter (fun a => decide (a < 2000) && hasY (newHp h k n).words a) = [] := by simp; omega
    rw [this, List.append_nil]
  · rw [el]
    simp only [List.length_append, List.length_singleton]
    omega

/-- A new object's address can be a root. -/
theorem add_new {h : Hp} {k n : Int} (q : newB h k n = true) (hr : h.roots.length < 20) : addB (newC h k n) (newW' h k n) = true := by
  obtain ⟨l', R, hm, -, -⟩ := new_right q
  have e1 : newC h k n = newHp h k n := by unfold newC; rw [if_pos q]
  have e2 : newW' h k n = 2 * h.eden + 1 := by unfold newW'; rw [if_pos q]
  obtain ⟨ok, ob⟩ := c_yes R
  rw [e1, e2]
  unfold addB
  rw [ok, ob]
  have q' := q
  unfold newB at q'
  rw [Bool.and_eq_true] at q'
  have o := ok_len q'.1
  have hf : fitB l' (2 * h.eden + 1) = true := by
    have k2 : kindW (2 * h.eden + 1) = 2 := by
      unfold kindW adrB
      rw [if_pos (by omega), if_pos (by simp; omega)]
    unfold fitB
    rw [k2]
    have : (ints l').contains ((2 * h.eden + 1) / 2) = true := by
      rw [List.contains_iff_mem]
      exact List.mem_map.2 ⟨h.eden.toNat, hm, by omega⟩
    rw [this]
    rfl
  rw [hf]
  have : ¬ (newHp h k n).roots.length = 20 := by show ¬ h.roots.length = 20; omega
  simp [this]

end Go.Proofs.YtklafifiphbibaaGreat

/- What the model's operations answer for a heap with short lists. -/
namespace Go.Proofs.YtklafifiphbibaaGreat
open Go.RowKit

/-- A heap and a bool. -/
def OpOut (B : Nat) (e : Ending) (w' : World) : Prop := ∃ u b t, e = .returned (.tuple #[u, .bool b]) ∧ HM B w' u t ∧ Sm t ∧ (b = true → t.words.length = 3200)
theorem sm_zero : Sm zeroH := ⟨Nat.zero_le _, Nat.zero_le _, Nat.zero_le _⟩
theorem Sm.big {t : Hp} (h : Sm t) : t.words.length ≤ 1000000000000 ∧ t.roots.length ≤ 1000000000000 ∧ t.kept.length ≤ 1000000000000 := by
  obtain ⟨a, b, c⟩ := h
  omega
theorem kAdd {w : World} {v : Value} {t : Hp} (hv : HR w v t) (s : Sm t) (x : Int) (hx : In64 x) :
    Calls Tryz.prog 90 #[v, .int .i64 x] w fun e w' => OpOut w.heap.size e w' ∧ Below w.heap.size w w' := by
  obtain ⟨b1, b2, b3⟩ := s.big
  refine (specAddRoot_m v t x w hv b1 b2 b3 hx).mono fun e w' ⟨⟨u, e1, k⟩, b⟩ => ⟨⟨u, _, _, e1, k, ?_, fun q => by unfold addC; rw [if_pos q]; unfold addB at q; rw [Bool.and_eq_true] at q; exact (ok_len q.1).1⟩, b⟩
  unfold addC
  split
  · rename_i q
    unfold addB at q
    rw [Bool.and_eq_true, Bool.and_eq_true] at q
    have := (ok_len q.1).2.2.2.2.2
    have n20 : ¬ t.roots.length = 20 := by simpa using q.2.2
    refine ⟨s.1, ?_, s.2.2⟩
    show (t.roots ++ [x]).length ≤ 20
    rw [List.length_append, List.length_singleton]
    omega
  · exact sm_zero
theorem kSetR {w : World} {v : Value} {t : Hp} (hv : HR w v t) (s : Sm t) (i x : Int) (hx : In64 x) :
    Calls Tryz.prog 93 #[v, .int .i64 i, .int .i64 x] w fun e w' => OpOut w.heap.size e w' ∧ Below w.heap.size w w' := by
  obtain ⟨b1, b2, b3⟩ := s.big
  refine (specSetRoot_m v t i x w hv b1 b2 b3 hx).mono fun e w' ⟨⟨u, e1, k⟩, b⟩ => ⟨⟨u, _, _, e1, k, ?_, fun q => by unfold setC; rw [if_pos q]; unfold setB at q; rw [Bool.and_eq_true] at q; exact (ok_len q.1).1⟩, b⟩
  unfold setC
  split
  · refine ⟨s.1, ?_, s.2.2⟩
    show (t.roots.set i.toNat x).length ≤ 20
    rw [List.length_set]
    exact s.2.1
  · exact sm_zero
theorem kPut {w : World} {v : Value} {t : Hp} (hv : HR w v t) (s : Sm t) (x i y : Int) (hx : In64 x) (hy : In64 y) :
    Calls Tryz.prog 8 #[v, .int .i64 x, .int .i64 i, .int .i64 y] w fun e w' => OpOut w.heap.size e w' ∧ Below w.heap.size w w' := by
  obtain ⟨b1, b2, b3⟩ := s.big
  refine (specSet_m v t x i y w hv b1 b2 b3 hx hy).mono fun e w' ⟨⟨u, e1, k⟩, b⟩ => ⟨⟨u, _, _, e1, k, ?_, fun q => by unfold putC; rw [if_pos q]; unfold putB at q; rw [Bool.and_eq_true] at q; show (t.words.set _ _).length = 3200; rw [List.length_set]; exact (ok_len q.1).1⟩, b⟩
  unfold putC
  split
  · refine ⟨?_, s.2.1, ?_⟩
    · show (t.words.set _ _).length ≤ 3200
      rw [List.length_set]
      exact s.1
    · show (keptOf _ (obC t)).length ≤ 3200
      unfold keptOf
      rw [ints_length]
      exact Nat.le_trans (List.length_filter_le _ _) (ob_short t)
  · exact sm_zero
/-- A heap, a word and a bool; where it is true, eden has grown. -/
def NewOut (B : Nat) (t : Hp) (n : Int) (e : Ending) (w' : World) : Prop := ∃ u r b t', e = .returned (.tuple #[u, .int .i64 r, .bool b]) ∧ HM B w' u t' ∧ Sm t' ∧ In64 r ∧ (b = true → 2000 ≤ t.eden ∧ t'.eden = t.eden + 4 + n ∧ t'.eden ≤ 2600) ∧ (b = true → t'.words.length = 3200) ∧ (b = true → t.roots.length < 20 → addB t' r = true)
theorem kNew {w : World} {v : Value} {t : Hp} (hv : HR w v t) (s : Sm t) (c n : Int) :
    Calls Tryz.prog 89 #[v, .int .i64 c, .int .i64 n] w fun e w' => NewOut w.heap.size t n e w' ∧ Below w.heap.size w w' := by
  obtain ⟨b1, b2, b3⟩ := s.big
  refine (specNew_m v t c n w hv b1 b2 b3).mono fun e w' ⟨⟨u, e1, k⟩, b⟩ => ⟨⟨u, _, _, _, e1, k, ?_, ?_, ?_, fun q => by rw [new_yes q]; unfold newB at q; rw [Bool.and_eq_true] at q; show (((t.words.set _ _).set _ _).set _ _).length = 3200; rw [List.length_set, List.length_set, List.length_set]; exact (ok_len q.1).1, fun q hr => add_new q hr⟩, b⟩
  · unfold newC
    split
    · refine ⟨?_, s.2.1, s.2.2⟩
      show (((t.words.set _ _).set _ _).set _ _).length ≤ 3200
      rw [List.length_set, List.length_set, List.length_set]
      exact s.1
    · exact sm_zero
  · unfold newW' In64
    split
    · rename_i q
      unfold newB at q
      rw [Bool.and_eq_true] at q
      have := ok_len q.1
      omega
    · omega
  · intro q
    have q' := q
    unfold newB at q
    rw [Bool.and_eq_true, Bool.and_eq_true, Bool.and_eq_true, Bool.and_eq_true] at q
    have o := ok_len q.1
    have e5 := of_decide_eq_true q.2.2.2.2
    unfold newC
    rw [if_pos q']
    refine ⟨o.2.1, rfl, ?_⟩
    show t.eden + 4 + n ≤ 2600
    exact e5
set_option maxRecDepth 100000 in
set_option maxHeartbeats 1600000 in
theorem specScavenge_no (v : Value) (h : Hp) (w : World) (hv : HR w v h) (hro : h.roots.length ≤ 1000000000000) (hke : h.kept.length ≤ 1000000000000) (hk : okC h = false) :
    Calls Tryz.prog 91 #[v] w fun e w' => e = .returned (.tuple #[.agg #[.slice none 0 0, .slice none 0 0, .int .i64 0, .int .i64 0, .int .i64 0, .bool false, .int .i64 0, .slice none 0 0], .bool false]) ∧ Below w.heap.size w w' := by
  obtain ⟨v1, v2, v3, rfl, i1, i2, i3⟩ := id hv
  obtain ⟨a1, c1, rfl, -⟩ := IRs i1
  obtain ⟨a2, c2, rfl, -⟩ := IRs i2
  obtain ⟨a3, c3, rfl, -⟩ := IRs i3
  have S0 := CS.new w (.slice a1 h.words.length c1) (.slice a2 h.roots.length c2) (.int .i64 h.old) (.int .i64 h.eden) (.int .i64 h.surv) (.bool h.flip) (.int .i64 h.hash) (.slice a3 h.kept.length c3)
  have C := specHeapOk_c _ h _ (hv.later S0.bel) hro hke
  rw [hk] at C
  clear i1 i2 i3
  go_enter Tryz.func91, Tryz.ntmps91
  go_wp2_with fail
  refine C.mono ?_
  rintro e w1 ⟨rfl, hb1⟩
  have S1 := S0.later hb1
  clear C S0 hb1
  obtain ⟨fk, K⟩ := S1.res
  have fR := fun i => K.frozen i
  have r0 := K.cell (i := 0) (by omega)
  have r1 := K.cell (i := 1) (by omega)
  have r2 := K.cell (i := 2) (by omega)
  have r3 := K.cell (i := 3) (by omega)
  have r4 := K.cell (i := 4) (by omega)
  have r5 := K.cell (i := 5) (by omega)
  have r6 := K.cell (i := 6) (by omega)
  have r7 := K.cell (i := 7) (by omega)
  have ltR := K.lt
  have B9 : Below w.heap.size w ((((((((w1.setCell ⟨w.heap.size + 1, 0, none⟩ (.slice none 0 0)).setCell ⟨w.heap.size + 1, 1, none⟩ (.slice none 0 0)).setCell ⟨w.heap.size + 1, 2, none⟩ (.int .i64 0)).setCell ⟨w.heap.size + 1, 3, none⟩ (.int .i64 0)).setCell ⟨w.heap.size + 1, 4, none⟩ (.int .i64 0)).setCell ⟨w.heap.size + 1, 5, none⟩ (.bool false)).setCell ⟨w.heap.size + 1, 6, none⟩ (.int .i64 0)).setCell ⟨w.heap.size + 1, 7, none⟩ (.slice none 0 0)) := by
    repeat (refine Below.setCell ?_ (p := ⟨w.heap.size + 1, _, none⟩) (Nat.le_succ _) _)
    exact S1.bel
  clear K S1
  go_wp2
  exact bodyPost_ret (v := .tuple #[.agg #[.slice none 0 0, .slice none 0 0, .int .i64 0, .int .i64 0, .int .i64 0, .bool false, .int .i64 0, .slice none 0 0], .bool false]) (by simp [results, Tryz.results91, go_sem, r0, r1, r2, r3, r4, r5, r6, r7]) rfl ⟨rfl, B9⟩
set_option maxRecDepth 100000 in
set_option maxHeartbeats 1600000 in
theorem specCompact_no (v : Value) (h : Hp) (w : World) (hv : HR w v h) (hro : h.roots.length ≤ 1000000000000) (hke : h.kept.length ≤ 1000000000000) (hk : okC h = false) :
    Calls Tryz.prog 92 #[v] w fun e w' => e = .returned (.tuple #[.agg #[.slice none 0 0, .slice none 0 0, .int .i64 0, .int .i64 0, .int .i64 0, .bool false, .int .i64 0, .slice none 0 0], .bool false]) ∧ Below w.heap.size w w' := by
  obtain ⟨v1, v2, v3, rfl, i1, i2, i3⟩ := id hv
  obtain ⟨a1, c1, rfl, -⟩ := IRs i1
  obtain ⟨a2, c2, rfl, -⟩ := IRs i2
  obtain ⟨a3, c3, rfl, -⟩ := IRs i3
  have S0 := CS.new w (.slice a1 h.words.length c1) (.slice a2 h.roots.length c2) (.int .i64 h.old) (.int .i64 h.eden) (.int .i64 h.surv) (.bool h.flip) (.int .i64 h.hash) (.slice a3 h.kept.length c3)
  have C := specHeapOk_c _ h _ (hv.later S0.bel) hro hke
  rw [hk] at C
  clear i1 i2 i3
  go_enter Tryz.func92, Tryz.ntmps92
  go_wp2_with fail
  refine C.mono ?_
  rintro e w1 ⟨rfl, hb1⟩
  have S1 := S0.later hb1
  clear C S0 hb1
  obtain ⟨fk, K⟩ := S1.res
  have fR := fun i => K.frozen i
  have r0 := K.cell (i := 0) (by omega)
  have r1 := K.cell (i := 1) (by omega)
  have r2 := K.cell (i := 2) (by omega)
  have r3 := K.cell (i := 3) (by omega)
  have r4 := K.cell (i := 4) (by omega)
  have r5 := K.cell (i := 5) (by omega)
  have r6 := K.cell (i := 6) (by omega)
  have r7 := K.cell (i := 7) (by omega)
  have ltR := K.lt
  have B9 : Below w.heap.size w ((((((((w1.setCell ⟨w.heap.size + 1, 0, none⟩ (.slice none 0 0)).setCell ⟨w.heap.size + 1, 1, none⟩ (.slice none 0 0)).setCell ⟨w.heap.size + 1, 2, none⟩ (.int .i64 0)).setCell ⟨w.heap.size + 1, 3, none⟩ (.int .i64 0)).setCell ⟨w.heap.size + 1, 4, none⟩ (.int .i64 0)).setCell ⟨w.heap.size + 1, 5, none⟩ (.bool false)).setCell ⟨w.heap.size + 1, 6, none⟩ (.int .i64 0)).setCell ⟨w.heap.size + 1, 7, none⟩ (.slice none 0 0)) := by
    repeat (refine Below.setCell ?_ (p := ⟨w.heap.size + 1, _, none⟩) (Nat.le_succ _) _)
    exact S1.bel
  clear K S1
  go_wp2
  exact bodyPost_ret (v := .tuple #[.agg #[.slice none 0 0, .slice none 0 0, .int .i64 0, .int .i64 0, .int .i64 0, .bool false, .int .i64 0, .slice none 0 0], .bool false]) (by simp [results, Tryz.results92, go_sem, r0, r1, r2, r3, r4, r5, r6, r7]) rfl ⟨rfl, B9⟩

theorem kAddN {w : World} {v : Value} {t : Hp} (hv : HR w v t) (s : Sm t) (x : Int) (hx : In64 x) (ha : addB t x = true) :
    Calls Tryz.prog 90 #[v, .int .i64 x] w fun e w' => (∃ u t', e = .returned (.tuple #[u, .bool true]) ∧ HM w.heap.size w' u t' ∧ Sm t' ∧ t'.words.length = 3200) ∧ Below w.heap.size w w' := by
  obtain ⟨b1, b2, b3⟩ := s.big
  refine (specAddRoot_m v t x w hv b1 b2 b3 hx).mono fun e w' ⟨⟨u, e1, k⟩, b⟩ => ⟨⟨u, _, by rw [← ha]; exact e1, k, ?_, ?_⟩, b⟩
  · unfold addC
    rw [if_pos ha]
    have q := ha
    unfold addB at q
    rw [Bool.and_eq_true, Bool.and_eq_true] at q
    have := (ok_len q.1).2.2.2.2.2
    have n20 : ¬ t.roots.length = 20 := by simpa using q.2.2
    refine ⟨s.1, ?_, s.2.2⟩
    show (t.roots ++ [x]).length ≤ 20
    rw [List.length_append, List.length_singleton]
    omega
  · unfold addC
    rw [if_pos ha]
    have q := ha
    unfold addB at q
    rw [Bool.and_eq_true] at q
    exact (ok_len q.1).1
theorem kScav {w : World} {v : Value} {t : Hp} (hv : HR w v t) (s : Sm t) :
    Calls Tryz.prog 91 #[v] w fun e w' => OpOut w.heap.size e w' ∧ Below w.heap.size w w' := by
  obtain ⟨b1, b2, b3⟩ := s.big
  cases hk : okC t
  · refine (specScavenge_no v t w hv b2 b3 hk).mono fun e w' ⟨e1, b⟩ => ⟨⟨_, _, _, e1, zero_hm _ _, sm_zero, fun q => by cases q⟩, b⟩
  · refine (specScavenge_any v t _ (c_right hk) hk w hv).mono fun e w' ⟨q, b⟩ => ⟨?_, b⟩
    rcases q with ⟨u, e1, k, _⟩ | ⟨u, fs, l2, e1, k, S, _, P, _⟩
    · exact ⟨u, _, _, e1, k, sm_zero, fun q => by cases q⟩
    · refine ⟨u, _, _, e1, k, ⟨?_, ?_, ?_⟩, fun _ => by show (finW t fs.W).length = 3200; unfold finW; rw [zr_len, zr_len, S.len]⟩
      · show (finW t fs.W).length ≤ 3200
        unfold finW
        rw [zr_len, zr_len, S.len]
        exact Nat.le_refl _
      · show (rtL t t.roots.length).length ≤ 20
        rw [rtL_len t (Nat.le_refl _)]
        exact s.2.1
      · show (ints (keptS (finW t fs.W) l2)).length ≤ 3200
        rw [ints_length]
        exact Nat.le_trans (List.length_filter_le _ _) P.short
theorem kComp {w : World} {v : Value} {t : Hp} (hv : HR w v t) (s : Sm t) :
    Calls Tryz.prog 92 #[v] w fun e w' => OpOut w.heap.size e w' ∧ Below w.heap.size w w' := by
  obtain ⟨b1, b2, b3⟩ := s.big
  cases hk : okC t
  · refine (specCompact_no v t w hv b2 b3 hk).mono fun e w' ⟨e1, b⟩ => ⟨⟨_, _, _, e1, zero_hm _ _, sm_zero, fun q => by cases q⟩, b⟩
  · refine (specCompact_any v t _ (c_right hk) w hv).mono fun e w' ⟨⟨i, _, q⟩, b⟩ => ⟨?_, b⟩
    rcases q with ⟨u, e1, k, _⟩ | ⟨u, e1, k, _⟩
    · exact ⟨u, _, _, e1, k, sm_zero, fun q => by cases q⟩
    · refine ⟨u, _, _, e1, k, ⟨?_, ?_, Nat.zero_le _⟩, fun _ => cfS_len _ _ _ _⟩
      · show (cfS _ _ _ _).length ≤ 3200
        rw [cfS_len]
        exact Nat.le_refl _
      · show (t.roots.map _).length ≤ 20
        rw [List.length_map]
        exact s.2.1

end Go.Proofs.YtklafifiphbibaaGreat

/- The draw of a heap: what its regions are taken by. -/
namespace Go.Proofs.YtklafifiphbibaaGreat
open Go.RowKit

/-- The region of this number. -/
def regOf (n : Nat) : Code → Option Code
  | .region i ops d => if i = n then some (.region i ops d) else none
  | .seq a b => match regOf n a with
    | some c => some c
    | none => regOf n b
  | .block _ c => regOf n c
  | .scope c => regOf n c
  | .loop c => regOf n c
  | .cond _ a b => match regOf n a with
    | some c => some c
    | none => regOf n b
  | _ => none
/-- The block of this number. -/
def blkOf (n : Nat) : Code → Option Code
  | .block i c => if i = n then some (.block i c) else blkOf n c
  | .seq a b => match blkOf n a with
    | some c => some c
    | none => blkOf n b
  | .scope c => blkOf n c
  | .loop c => blkOf n c
  | .cond _ a b => match blkOf n a with
    | some c => some c
    | none => blkOf n b
  | _ => none
noncomputable def blk4 : Code := ((Tryz.f66.body.bind (blkOf 4)).getD .skip)
theorem box_new {W cur : World} {N : Nat} {cv : Value} {cs : List UInt8} (hs : Sx W N cv cs cur) (hN : N < W.heap.size) : ∃ wa SB, wa = cur.alloc (.cells #[.slice none 0 0, .slice none 0 0, .int .i64 0, .int .i64 0, .int .i64 0, .bool false, .int .i64 0, .slice none 0 0] 26) ∧ SB = cur.heap.size ∧ Sx W N cv cs wa ∧ (∃ f, wa.rowIs SB 26 8 f) ∧ W.heap.size ≤ SB ∧ Below cur.heap.size cur wa :=
  ⟨_, _, rfl, rfl, hs.more (bel_one _ _) hN, ⟨_, row_any cur #[.slice none 0 0, .slice none 0 0, .int .i64 0, .int .i64 0, .int .i64 0, .bool false, .int .i64 0, .slice none 0 0] 26⟩, hs.1.size, bel_one _ _⟩
theorem wrap_in (x : Int) : In64 (wrap64 x) := by
  unfold In64 wrap64
  omega


end Go.Proofs.YtklafifiphbibaaGreat
