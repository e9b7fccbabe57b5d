/- A heap with a new object is right. -/
import Derived.Test.YtphkmgalgngjiaaZFPlain
namespace Go.Proofs.Ytphkmgalgngjiaa
open Go.RowKit

theorem fit_more {l l' : List Nat} (h : ∀ a, a ∈ l → a ∈ l') {x : Int} (k : fitB l x = true) : fitB l' x = true := by
  unfold fitB at k ⊢
  rw [Bool.or_eq_true, Bool.and_eq_true] at k ⊢
  rcases k with k | ⟨k1, k2⟩
  · exact .inl k
  · refine .inr ⟨k1, ?_⟩
    rw [List.contains_iff_mem] at k2 ⊢
    obtain ⟨a, ha, e⟩ := List.mem_map.1 k2
    exact List.mem_map.2 ⟨a, h a ha, e⟩
theorem fit_zero (l : List Nat) : fitB l 0 = true := by
  unfold fitB
  rw [show kindW 0 = 1 from by decide]
  rfl
theorem hash_inj {W : List Int} {l : List Nat} (h : (hashesOf W l).Nodup) {a b : Nat} (ha : a ∈ l) (hb : b ∈ l) (e : gw W (a + 2) = gw W (b + 2)) : a = b := by
  unfold hashesOf at h
  rw [List.nodup_iff_pairwise_ne, List.pairwise_map, List.pairwise_iff_getElem] at h
  obtain ⟨i, hi, ei⟩ := List.getElem_of_mem ha
  obtain ⟨j, hj, ej⟩ := List.getElem_of_mem hb
  rcases Nat.lt_trichotomy i j with q | q | q
  · have := h i j hi hj q
    rw [ei, ej] at this
    exact absurd e this
  · subst q
    exact ei.symm.trans ej
  · have := h j i hj hi q
    rw [ei, ej] at this
    exact absurd e.symm this
theorem new_right {h : Hp} {k n : Int} (q : newB h k n = true) : ∃ l', RightAt (newHp h k n) l' ∧ h.eden.toNat ∈ l' ∧ (∀ a, a ∈ obC h → a ∈ l') ∧ l'.length = (obC h).length + 1 := by
  unfold newB at q
  rw [Bool.and_eq_true, Bool.and_eq_true, Bool.and_eq_true, Bool.and_eq_true] at q
  obtain ⟨hk, q1, q2, q3, q4⟩ := q
  have R := c_right hk
  have k1 := of_decide_eq_true q1
  have k2 := of_decide_eq_true q2
  have k4 := of_decide_eq_true q4
  have k3 : ¬ h.hash = 1000000000 := by simpa using q3
  have ok := ok_len hk
  have nz := fun i => ok_nought hk i
  obtain ⟨m, hm⟩ : ∃ m : Nat, h.eden = m := ⟨h.eden.toNat, by omega⟩
  obtain ⟨p, z, hh, h1, h2, r1, r2, f, kp⟩ := id R
  have so := ((right_iff R.1.1).1 R).1.sorted
  have G : ∀ j, gw (newHp h k n).words j = if j = m + 2 then h.hash else if j = m + 1 then k else if j = m then n else gw h.words j := fun j => by
    show gw (((h.words.set h.eden.toNat n).set (h.eden.toNat + 1) k).set (h.eden.toNat + 2) h.hash) j = _
    rw [hm, Int.toNat_natCast, gw_set _ _ _ _ (by simp; omega), gw_set _ _ _ _ (by simp; omega), gw_set _ _ _ _ (by omega)]
  have O : ∀ j, (j < m ∨ m + 3 ≤ j) → gw (newHp h k n).words j = gw h.words j := fun j hj => by
    rw [G, if_neg (by omega), if_neg (by omega), if_neg (by omega)]
  obtain ⟨_, p0, p1, p2, n0, n1, n2, g0, g1, g2, el⟩ := p
  rw [hm, Int.toNat_natCast] at g1
  have hs : 2600 ≤ survB h.flip := by unfold survB; split <;> omega
  have G0 := goes_same (V := (newHp h k n).words) g0 (fun a ha j hj => O _ (.inl (by have := goes_in g0 ha; omega)))
  have G1 := goes_same (V := (newHp h k n).words) g1 (fun a ha j hj => O _ (.inl (by have := goes_in g1 ha; omega)))
  have G2 := goes_same (V := (newHp h k n).words) g2 (fun a ha j hj => O _ (.inr (by have := goes_in g2 ha; omega)))
  have em : it (newHp h k n).words 2000 n1 = m := G1.1.1
  have gm : gw (newHp h k n).words m = n := by rw [G, if_neg (by omega), if_neg (by omega), if_pos rfl]
  have nxm : nx (newHp h k n).words m = m + 4 + n.toNat := by unfold nx; rw [gm]
  have g3 : gw (newHp h k n).words (m + 3) = 0 := by rw [O _ (.inr (by omega))]; exact nz (m + 3) (by omega) (by omega)
  have E1 : its (newHp h k n).words 2000 (n1 + 1) = its h.words 2000 n1 ++ [m] := by rw [its_succ, em, G1.2]
  have P' : PartsAt (newHp h k n) (its h.words 0 n0 ++ (its h.words 2000 n1 ++ [m]) ++ its h.words (survB h.flip) n2) := by
    refine ⟨by show (((h.words.set _ _).set _ _).set _ _).length = 3200; simp; exact ok.1, p0, ⟨by show 2000 ≤ h.eden + 4 + n; omega, by show h.eden + 4 + n ≤ 2600; omega⟩, p2, n0, n1 + 1, n2, G0.1, ?_, G2.1, ?_⟩
    · show Goes (newHp h k n).words 2000 (h.eden + 4 + n).toNat (n1 + 1)
      refine ⟨?_, fun i hi => ?_⟩
      · show nx _ (it _ 2000 n1) = _
        rw [em, nxm]
        omega
      · rcases Nat.lt_or_ge i n1 with c | c
        · exact G1.1.2 i c
        · obtain rfl : i = n1 := by omega
          rw [em]
          unfold headB
          rw [gm, g3, G, if_neg (by omega), if_pos rfl]
          simp
          omega
    · show _ = its (newHp h k n).words 0 n0 ++ its (newHp h k n).words 2000 (n1 + 1) ++ its (newHp h k n).words (survB h.flip) n2
      rw [G0.2, E1, G2.2]
  have mem : ∀ a, a ∈ its h.words 0 n0 ++ (its h.words 2000 n1 ++ [m]) ++ its h.words (survB h.flip) n2 ↔ a ∈ obC h ∨ a = m := fun a => by
    rw [el]
    simp only [List.mem_append, List.mem_singleton]
    constructor
    · rintro ((q | q | q) | q)
      · exact .inl (.inl (.inl q))
      · exact .inl (.inl (.inr q))
      · exact .inr q
      · exact .inl (.inr q)
    · rintro (((q | q) | q) | q)
      · exact .inl (.inl q)
      · exact .inl (.inr (.inl q))
      · exact .inr q
      · exact .inl (.inr (.inr q))
  have out : ∀ a, a ∈ obC h → nx h.words a ≤ m ∨ m + 3 ≤ a := fun a ha => by
    rw [el, List.mem_append, List.mem_append] at ha
    rcases ha with (ha | ha) | ha
    · have := goes_in g0 ha; omega
    · have := goes_in g1 ha; omega
    · have := goes_in g2 ha; omega
  have cell : ∀ a, a ∈ obC h → ∀ j, a ≤ j → j < nx h.words a → gw (newHp h k n).words j = gw h.words j := fun a ha j j1 j2 => O j (by have := out a ha; omega)
  have nxs : ∀ a, a ∈ obC h → nx (newHp h k n).words a = nx h.words a := fun a ha => by
    have e : nx h.words a = a + 4 + (gw h.words a).toNat := rfl
    unfold nx
    rw [cell a ha a (Nat.le_refl _) (by omega)]
  have hsh : ∀ a, a ∈ obC h → gw (newHp h k n).words (a + 2) = gw h.words (a + 2) := fun a ha => by
    have e : nx h.words a = a + 4 + (gw h.words a).toNat := rfl
    exact cell a ha _ (by omega) (by omega)
  have hsm : gw (newHp h k n).words (m + 2) = h.hash := by rw [G, if_pos rfl]
  have Z' : noughts (newHp h k n) := fun i hi hn => by
    have hn' : ¬ inUse h i := fun u => hn (by
      unfold inUse at u ⊢
      show (i : Int) < h.old ∨ (2000 ≤ i ∧ (i : Int) < h.eden + 4 + n) ∨ (survB h.flip ≤ i ∧ (i : Int) < h.surv)
      omega)
    have hm' : ¬ (m ≤ i ∧ i < m + 3) := fun u => hn (by
      unfold inUse
      show (i : Int) < h.old ∨ (2000 ≤ i ∧ (i : Int) < h.eden + 4 + n) ∨ (survB h.flip ≤ i ∧ (i : Int) < h.surv)
      omega)
    rw [O i (by omega)]
    exact z i hi hn'
  have H1 : ∀ a, a ∈ its h.words 0 n0 ++ (its h.words 2000 n1 ++ [m]) ++ its h.words (survB h.flip) n2 → 1 ≤ gw (newHp h k n).words (a + 2) := fun a ha => by
    rcases (mem a).1 ha with q | rfl
    · rw [hsh a q]; exact h1 a q
    · rw [hsm]; exact hh.1
  have so' := ((laid_iff P'.1).2 ⟨P', Z', H1⟩).sorted
  refine ⟨_, ⟨P', Z', ⟨by show 1 ≤ h.hash + 1; omega, by show h.hash + 1 ≤ 1000000000; omega⟩, H1, ⟨fun a ha => ?_, ?_⟩, r1, fun x hx => fit_more (fun a ha => (mem a).2 (.inl ha)) (r2 x hx), fun a ha => ?_, ?_⟩, by rw [hm, Int.toNat_natCast]; exact (mem m).2 (.inr rfl), fun a ha => (mem a).2 (.inl ha), ?_⟩
  · show gw (newHp h k n).words (a + 2) < h.hash + 1
    rcases (mem a).1 ha with q | rfl
    · rw [hsh a q]; have := h2.1 a q; omega
    · rw [hsm]; omega
  · unfold hashesOf
    rw [List.nodup_iff_pairwise_ne, List.pairwise_map]
    refine List.Pairwise.imp_of_mem (fun {a b} ha hb lt e => ?_) so'
    rcases (mem a).1 ha with qa | rfl <;> rcases (mem b).1 hb with qb | rfl
    · rw [hsh a qa, hsh b qb] at e
      have := hash_inj h2.2 qa qb e
      omega
    · rw [hsh a qa, hsm] at e
      have := h2.1 a qa
      omega
    · rw [hsh b qb, hsm] at e
      have := h2.1 b qb
      omega
    · omega
  · intro j j1 j2
    rcases (mem a).1 ha with q | rfl
    · rw [nxs a q] at j2
      rw [cell a q j (by omega) j2]
      exact fit_more (fun b hb => (mem b).2 (.inl hb)) (f a q j j1 j2)
    · rw [nxm] at j2
      rw [O j (.inr (by omega)), show gw h.words j = 0 from nz j (by omega) (by omega)]
      exact fit_zero _
  · show keptOf (newHp h k n).words _ = h.kept
    rw [← kp]
    have same : ∀ l : List Nat, (∀ a, a ∈ l → a ∈ obC h) → l.filter (fun a => decide (a < 2000) && hasY (newHp h k n).words a) = l.filter (fun a => decide (a < 2000) && hasY h.words a) := fun l hl => by
      refine List.filter_congr fun a ha => ?_
      have qa := hl a ha
      have e : hasY (newHp h k n).words a = hasY h.words a := by
        unfold hasY flds
        have e0 : nx h.words a = a + 4 + (gw h.words a).toNat := rfl
        rw [cell a qa a (Nat.le_refl _) (by omega)]
        congr 1
        refine List.map_congr_left fun i hi => ?_
        rw [List.mem_range] at hi
        exact cell a qa _ (by omega) (by omega)
      rw [e]
    unfold keptOf
    rw [el]
    simp only [List.filter_append]
    rw [same (its h.words 0 n0) (fun a ha => by rw [el]; simp [ha]), same (its h.words 2000 n1) (fun a ha => by rw [el]; simp [ha]), same (its h.words (survB h.flip) n2) (fun a ha => by rw [el]; simp [ha])]
    have : [m].filter (fun a => decide (a < 2000) && hasY (newHp h k n).words a) = [] := by simp; omega
    rw [this, List.append_nil]
  · rw [el]
    simp only [List.length_append, List.length_singleton]
    omega

/-- A new object's address can be a root. -/
theorem add_new {h : Hp} {k n : Int} (q : newB h k n = true) (hr : h.roots.length < 20) : addB (newC h k n) (newW' h k n) = true := by
  obtain ⟨l', R, hm, -, -⟩ := new_right q
  have e1 : newC h k n = newHp h k n := by unfold newC; rw [if_pos q]
  have e2 : newW' h k n = 2 * h.eden + 1 := by unfold newW'; rw [if_pos q]
  obtain ⟨ok, ob⟩ := c_yes R
  rw [e1, e2]
  unfold addB
  rw [ok, ob]
  have q' := q
  unfold newB at q'
  rw [Bool.and_eq_true] at q'
  have o := ok_len q'.1
  have hf : fitB l' (2 * h.eden + 1) = true := by
    have k2 : kindW (2 * h.eden + 1) = 2 := by
      unfold kindW adrB
      rw [if_pos (by omega), if_pos (by simp; omega)]
    unfold fitB
    rw [k2]
    have : (ints l').contains ((2 * h.eden + 1) / 2) = true := by
      rw [List.contains_iff_mem]
      exact List.mem_map.2 ⟨h.eden.toNat, hm, by omega⟩
    rw [this]
    rfl
  rw [hf]
  have : ¬ (newHp h k n).roots.length = 20 := by show ¬ h.roots.length = 20; omega
  simp [this]

end Go.Proofs.Ytphkmgalgngjiaa
