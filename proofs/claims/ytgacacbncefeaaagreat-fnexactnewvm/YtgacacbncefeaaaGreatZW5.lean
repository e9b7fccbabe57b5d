import Derived.Test.YtgacacbncefeaaaGreatZFPlain
import Derived.Test.YtgacacbncefeaaaGreatZW0
import Derived.Test.YtgacacbncefeaaaGreatZHLawM
import Derived.Test.YtgacacbncefeaaaGreatZMPlain
import Derived.Test.YtgacacbncefeaaaGreatZW4
import Derived.Test.YtgacacbncefeaaaGreatZMINew
import Derived.Test.YtgacacbncefeaaaGreatZKCode
import Derived.Test.YtgacacbncefeaaaGreatZQBox
/- A heap with a new object is right. -/
namespace Go.Proofs.YtgacacbncefeaaaGreat
open Go.RowKit

theorem fit_more {l l' : List Nat} (h : ∀ a, a ∈ l → a ∈ l') {x : Int} (k : fitB l x = true) : fitB l' x = true := by
  unfold fitB at k ⊢
  rw [Bool.or_eq_true, Bool.and_eq_true] at k ⊢
  rcases k with k | ⟨k1, k2⟩
  · exact .inl k
  · refine .inr ⟨k1, ?_⟩
    rw [List.contains_iff_mem] at k2 ⊢
    obtain ⟨a, ha, e⟩ := List.mem_map.1 k2
    exact List.mem_map.2 ⟨a, h a ha, e⟩
theorem fit_zero (l : List Nat) : fitB l 0 = true := by
  unfold fitB
  rw [show kindW 0 = 1 from by decide]
  rfl
theorem hash_inj {W : List Int} {l : List Nat} (h : (hashesOf W l).Nodup) {a b : Nat} (ha : a ∈ l) (hb : b ∈ l) (e : gw W (a + 2) = gw W (b + 2)) : a = b := by
  unfold hashesOf at h
  rw [List.nodup_iff_pairwise_ne, List.pairwise_map, List.pairwise_iff_getElem] at h
  obtain ⟨i, hi, ei⟩ := List.getElem_of_mem ha
  obtain ⟨j, hj, ej⟩ := List.getElem_of_mem hb
  rcases Nat.lt_trichotomy i j with q | q | q
  · have := h i j hi hj q
    rw [ei, ej] at this
    exact absurd e this
  · subst q
    exact ei.symm.trans ej
  · have := h j i hj hi q
    rw [ei, ej] at this
    exact absurd e.symm this
theorem new_right {h : Hp} {k n : Int} (q : newB h k n = true) : ∃ l', RightAt (newHp h k n) l' ∧ h.eden.toNat ∈ l' ∧ (∀ a, a ∈ obC h → a ∈ l') ∧ l'.length = (obC h).length + 1 := by
  unfold newB at q
  rw [Bool.and_eq_true, Bool.and_eq_true, Bool.and_eq_true, Bool.and_eq_true] at q
  obtain ⟨hk, q1, q2, q3, q4⟩ := q
  have R := c_right hk
  have k1 := of_decide_eq_true q1
  have k2 := of_decide_eq_true q2
  have k4 := of_decide_eq_true q4
  have k3 : ¬ h.hash = 1000000000 := by simpa using q3
  have ok := ok_len hk
  have nz := fun i => ok_nought hk i
  obtain ⟨m, hm⟩ : ∃ m : Nat, h.eden = m := ⟨h.eden.toNat, by omega⟩
  obtain ⟨p, z, hh, h1, h2, r1, r2, f, kp⟩ := id R
  have so := ((right_iff R.1.1).1 R).1.sorted
  have G : ∀ j, gw (newHp h k n).words j = if j = m + 2 then h.hash else if j = m + 1 then k else if j = m then n else gw h.words j := fun j => by
    show gw (((h.words.set h.eden.toNat n).set (h.eden.toNat + 1) k).set (h.eden.toNat + 2) h.hash) j = _
    rw [hm, Int.toNat_natCast, gw_set _ _ _ _ (by simp; omega), gw_set _ _ _ _ (by simp; omega), gw_set _ _ _ _ (by omega)]
  have O : ∀ j, (j < m ∨ m + 3 ≤ j) → gw (newHp h k n).words j = gw h.words j := fun j hj => by
    rw [G, if_neg (by omega), if_neg (by omega), if_neg (by omega)]
  obtain ⟨_, p0, p1, p2, n0, n1, n2, g0, g1, g2, el⟩ := p
  rw [hm, Int.toNat_natCast] at g1
  have hs : 2600 ≤ survB h.flip := by unfold survB; split <;> omega
  have G0 := goes_same (V := (newHp h k n).words) g0 (fun a ha j hj => O _ (.inl (by have := goes_in g0 ha; omega)))
  have G1 := goes_same (V := (newHp h k n).words) g1 (fun a ha j hj => O _ (.inl (by have := goes_in g1 ha; omega)))
  have G2 := goes_same (V := (newHp h k n).words) g2 (fun a ha j hj => O _ (.inr (by have := goes_in g2 ha; omega)))
  have em : it (newHp h k n).words 2000 n1 = m := G1.1.1
  have gm : gw (newHp h k n).words m = n := by rw [G, if_neg (by omega), if_neg (by omega), if_pos rfl]
  have nxm : nx (newHp h k n).words m = m + 4 + n.toNat := by unfold nx; rw [gm]
  have g3 : gw (newHp h k n).words (m + 3) = 0 := by rw [O _ (.inr (by omega))]; exact nz (m + 3) (by omega) (by omega)
  have E1 : its (newHp h k n).words 2000 (n1 + 1) = its h.words 2000 n1 ++ [m] := by rw [its_succ, em, G1.2]
  have P' : PartsAt (newHp h k n) (its h.words 0 n0 ++ (its h.words 2000 n1 ++ [m]) ++ its h.words (survB h.flip) n2) := by
    refine ⟨by show (((h.words.set _ _).set _ _).set _ _).length = 3200; simp; exact ok.1, p0, ⟨by show 2000 ≤ h.eden + 4 + n; omega, by show h.eden + 4 + n ≤ 2600; omega⟩, p2, n0, n1 + 1, n2, G0.1, ?_, G2.1, ?_⟩
    · show Goes (newHp h k n).words 2000 (h.eden + 4 + n).toNat (n1 + 1)
      refine ⟨?_, fun i hi => ?_⟩
      · show nx _ (it _ 2000 n1) = _
        rw [em, nxm]
        omega
      · rcases Nat.lt_or_ge i n1 with c | c
        · exact G1.1.2 i c
        · obtain rfl : i = n1 := by omega
          rw [em]
          unfold headB
          rw [gm, g3, G, if_neg (by omega), if_pos rfl]
          simp
          omega
    · show _ = its (newHp h k n).words 0 n0 ++ its (newHp h k n).words 2000 (n1 + 1) ++ its (newHp h k n).words (survB h.flip) n2
      rw [G0.2, E1, G2.2]
  have mem : ∀ a, a ∈ its h.words 0 n0 ++ (its h.words 2000 n1 ++ [m]) ++ its h.words (survB h.flip) n2 ↔ a ∈ obC h ∨ a = m := fun a => by
    rw [el]
    simp only [List.mem_append, List.mem_singleton]
    constructor
    · rintro ((q | q | q) | q)
      · exact .inl (.inl (.inl q))
      · exact .inl (.inl (.inr q))
      · exact .inr q
      · exact .inl (.inr q)
    · rintro (((q | q) | q) | q)
      · exact .inl (.inl q)
      · exact .inl (.inr (.inl q))
      · exact .inr q
      · exact .inl (.inr (.inr q))
  have out : ∀ a, a ∈ obC h → nx h.words a ≤ m ∨ m + 3 ≤ a := fun a ha => by
    rw [el, List.mem_append, List.mem_append] at ha
    rcases ha with (ha | ha) | ha
    · have := goes_in g0 ha; omega
    · have := goes_in g1 ha; omega
    · have := goes_in g2 ha; omega
  have cell : ∀ a, a ∈ obC h → ∀ j, a ≤ j → j < nx h.words a → gw (newHp h k n).words j = gw h.words j := fun a ha j j1 j2 => O j (by have := out a ha; omega)
  have nxs : ∀ a, a ∈ obC h → nx (newHp h k n).words a = nx h.words a := fun a ha => by
    have e : nx h.words a = a + 4 + (gw h.words a).toNat := rfl
    unfold nx
    rw [cell a ha a (Nat.le_refl _) (by omega)]
  have hsh : ∀ a, a ∈ obC h → gw (newHp h k n).words (a + 2) = gw h.words (a + 2) := fun a ha => by
    have e : nx h.words a = a + 4 + (gw h.words a).toNat := rfl
    exact cell a ha _ (by omega) (by omega)
  have hsm : gw (newHp h k n).words (m + 2) = h.hash := by rw [G, if_pos rfl]
  have Z' : noughts (newHp h k n) := fun i hi hn => by
    have hn' : ¬ inUse h i := fun u => hn (by
      unfold inUse at u ⊢
      show (i : Int) < h.old ∨ (2000 ≤ i ∧ (i : Int) < h.eden + 4 + n) ∨ (survB h.flip ≤ i ∧ (i : Int) < h.surv)
      omega)
    have hm' : ¬ (m ≤ i ∧ i < m + 3) := fun u => hn (by
      unfold inUse
      show (i : Int) < h.old ∨ (2000 ≤ i ∧ (i : Int) < h.eden + 4 + n) ∨ (survB h.flip ≤ i ∧ (i : Int) < h.surv)
      omega)
    rw [O i (by omega)]
    exact z i hi hn'
  have H1 : ∀ a, a ∈ its h.words 0 n0 ++ (its h.words 2000 n1 ++ [m]) ++ its h.words (survB h.flip) n2 → 1 ≤ gw (newHp h k n).words (a + 2) := fun a ha => by
    rcases (mem a).1 ha with q | rfl
    · rw [hsh a q]; exact h1 a q
    · rw [hsm]; exact hh.1
  have so' := ((laid_iff P'.1).2 ⟨P', Z', H1⟩).sorted
  refine ⟨_, ⟨P', Z', ⟨by show 1 ≤ h.hash + 1; omega, by show h.hash + 1 ≤ 1000000000; omega⟩, H1, ⟨fun a ha => ?_, ?_⟩, r1, fun x hx => fit_more (fun a ha => (mem a).2 (.inl ha)) (r2 x hx), fun a ha => ?_, ?_⟩, by rw [hm, Int.toNat_natCast]; exact (mem m).2 (.inr rfl), fun a ha => (mem a).2 (.inl ha), ?_⟩
  · show gw (newHp h k n).words (a + 2) < h.hash + 1
    rcases (mem a).1 ha with q | rfl
    · rw [hsh a q]; have := h2.1 a q; omega
    · rw [hsm]; omega
  · unfold hashesOf
    rw [List.nodup_iff_pairwise_ne, List.pairwise_map]
    refine List.Pairwise.imp_of_mem (fun {a b} ha hb lt e => ?_) so'
    rcases (mem a).1 ha with qa | rfl <;> rcases (mem b).1 hb with qb | rfl
    · rw [hsh a qa, hsh b qb] at e
      have := hash_inj h2.2 qa qb e
      omega
    · rw [hsh a qa, hsm] at e
      have := h2.1 a qa
      omega
    · rw [hsh b qb, hsm] at e
      have := h2.1 b qb
      omega
    · omega
  · intro j j1 j2
    rcases (mem a).1 ha with q | rfl
    · rw [nxs a q] at j2
      rw [cell a q j (by omega) j2]
      exact fit_more (fun b hb => (mem b).2 (.inl hb)) (f a q j j1 j2)
    · rw [nxm] at j2
      rw [O j (.inr (by omega)), show gw h.words j = 0 from nz j (by omega) (by omega)]
      exact fit_zero _
  · show keptOf (newHp h k n).words _ = h.kept
    rw [← kp]
    have same : ∀ l : List Nat, (∀ a, a ∈ l → a ∈ obC h) → l.filter (fun a => decide (a < 2000) && hasY (newHp h k n).words a) = l.filter (fun a => decide (a < 2000) && hasY h.words a) := fun l hl => by
      refine List.filter_congr fun a ha => ?_
      have qa := hl a ha
      have e : hasY (newHp h k n).words a = hasY h.words a := by
        unfold hasY flds
        have e0 : nx h.words a = a + 4 + (gw h.words a).toNat := rfl
        rw [cell a qa a (Nat.le_refl _) (by omega)]
        congr 1
        refine List.map_congr_left fun i hi => ?_
        rw [List.mem_range] at hi
        exact cell a qa _ (by omega) (by omega)
      rw [e]
    unfold keptOf
    rw [el]
    simp only [List.filter_append]
    rw [same (its h.words 0 n0) (fun a ha => by rw [el]; simp [ha]), same (its h.words 2000 n1) (fun a ha => by rw [el]; simp [ha]), same (its h.words (survB h.flip) n2) (fun a ha => by rw [el]; simp [ha])]
    have : [m].filter (fun a => decide (a < 2000) && hasY (newHp h k n).words a) = [] := by simp; omega
    rw [this, List.append_nil]
  · rw [el]
    simp only [List.length_append, List.length_singleton]
    omega

/-- A new object's address can be a root. -/
theorem add_new {h : Hp} {k n : Int} (q : newB h k n = true) (hr : h.roots.length < 20) : addB (newC h k n) (newW' h k n) = true := by
  obtain ⟨l', R, hm, -, -⟩ := new_right q
  have e1 : newC h k n = newHp h k n := by unfold newC; rw [if_pos q]
  have e2 : newW' h k n = 2 * h.eden + 1 := by unfold newW'; rw [if_pos q]
  obtain ⟨ok, ob⟩ := c_yes R
  rw [e1, e2]
  unfold addB
  rw [ok, ob]
  have q' := q
  unfold newB at q'
  rw [Bool.and_eq_true] at q'
  have o := ok_len q'.1
  have hf : fitB l' (2 * h.eden + 1) = true := by
    have k2 : kindW (2 * h.eden + 1) = 2 := by
      unfold kindW adrB
      rw [if_pos (by omega), if_pos (by simp; omega)]
    unfold fitB
    rw [k2]
    have : (ints l').contains ((2 * h.eden + 1) / 2) = true := by
      rw [List.contains_iff_mem]
      exact List.mem_map.2 ⟨h.eden.toNat, hm, by omega⟩
    rw [this]
    rfl
  rw [hf]
  have : ¬ (newHp h k n).roots.length = 20 := by show ¬ h.roots.length = 20; omega
  simp [this]

end Go.Proofs.YtgacacbncefeaaaGreat

/- Theory of FnHeaps: the headers of a right heap, the sum of its objects' sizes, a new heap is right; likeInts. -/
namespace Go.Proofs.YtgacacbncefeaaaGreat
open Go.RowKit

/-- The words that these objects take. -/
def szS (W : List Int) : List Nat → Int
  | [] => 0
  | a :: l => 4 + gw W a + szS W l
theorem szS_app (W : List Int) (l m : List Nat) : szS W (l ++ m) = szS W l + szS W m := by
  induction l with
  | nil => simp [szS]
  | cons a l ih => simp only [List.cons_append, szS, ih]; omega
theorem szS_snoc (W : List Int) (l : List Nat) (k : Nat) (h : k < l.length) : szS W (l.take (k + 1)) = szS W (l.take k) + 4 + gw W (l.getD k 0) := by
  rw [List.take_succ_eq_append_getElem h, szS_app]
  simp only [szS, List.getD_eq_getElem?_getD, List.getElem?_eq_getElem h, Option.getD_some]
  omega
theorem szS_its {W : List Int} {f n : Nat} (h : ∀ i, i < n → headB W (it W f i) = true) : szS W (its W f n) = (it W f n : Int) - f := by
  induction n with
  | zero => simp [its, szS, it]
  | succ n ih =>
    have hh := h n (by omega)
    unfold headB at hh
    simp only [Bool.and_eq_true, decide_eq_true_eq] at hh
    rw [its_succ, szS_app, ih (fun i hi => h i (by omega))]
    show (it W f n : Int) - f + (4 + gw W (it W f n) + 0) = (nx W (it W f n) : Nat) - f
    unfold nx
    omega
theorem szS_all {h : Hp} {l : List Nat} (k : PartsAt h l) : szS h.words l = h.old + h.eden - 2000 + h.surv - (survB h.flip : Int) := by
  obtain ⟨_, o, e, s, n0, n1, n2, g0, g1, g2, rfl⟩ := k
  rw [szS_app, szS_app, szS_its g0.2, szS_its g1.2, szS_its g2.2, g0.1, g1.1, g2.1]
  omega
theorem szS_bound {h : Hp} {l : List Nat} (k : PartsAt h l) (n : Nat) : 0 ≤ szS h.words (l.take n) ∧ szS h.words (l.take n) ≤ 210000 := by
  have L := k.short
  have B : ∀ m : List Nat, (∀ a, a ∈ m → a ∈ l) → 0 ≤ szS h.words m ∧ szS h.words m ≤ 64 * m.length := by
    intro m
    induction m with
    | nil => intro _; simp [szS]
    | cons a m ih =>
      intro q
      have hh := (k.obj (q a (by simp))).2.2
      unfold headB at hh
      simp only [Bool.and_eq_true, decide_eq_true_eq] at hh
      have := ih (fun b hb => q b (by simp [hb]))
      simp only [szS, List.length_cons]
      omega
  have := B (l.take n) (fun a ha => List.mem_of_mem_take ha)
  have tl : (l.take n).length ≤ l.length := by rw [List.length_take]; omega
  omega
theorem rise {l : List Nat} (so : l.Pairwise (· < ·)) {k : Nat} (h : k + 1 < l.length) : l.getD k 0 < l.getD (k + 1) 0 := by
  have := List.pairwise_iff_getElem.1 so k (k + 1) (by omega) h (by omega)
  simpa [List.getD_eq_getElem?_getD, List.getElem?_eq_getElem h, List.getElem?_eq_getElem (show k < l.length by omega)] using this
theorem getD_memL {l : List Nat} {k : Nat} (h : k < l.length) : l.getD k 0 ∈ l := by
  rw [List.getD_eq_getElem?_getD, List.getElem?_eq_getElem h]
  exact List.getElem_mem h
/-- What the header of an object of a right heap is. -/
theorem head_of {h : Hp} (k : okC h = true) {i : Nat} (hi : i < (obC h).length) :
    isC h ((obC h).getD i 0 : Nat) = true ∧ (obC h).getD i 0 + 4 ≤ 3200 ∧ (0 ≤ gw h.words ((obC h).getD i 0) ∧ gw h.words ((obC h).getD i 0) ≤ 60) ∧ (0 ≤ gw h.words ((obC h).getD i 0 + 1) ∧ gw h.words ((obC h).getD i 0 + 1) ≤ 99) ∧
    (1 ≤ gw h.words ((obC h).getD i 0 + 2) ∧ gw h.words ((obC h).getD i 0 + 2) < h.hash) ∧ (0 ≤ gw h.words ((obC h).getD i 0 + 3) ∧ gw h.words ((obC h).getD i 0 + 3) ≤ 15) := by
  have R := c_right k
  have m := getD_memL hi
  have o := R.1.obj m
  have hh := o.2.2
  unfold headB at hh
  simp only [Bool.and_eq_true, decide_eq_true_eq] at hh
  refine ⟨?_, o.1, hh.1, hh.2.1, ⟨R.2.2.2.1 _ m, R.2.2.2.2.1.1 _ m⟩, hh.2.2⟩
  unfold isC
  exact mem_stop hi rfl
theorem new_ok : okC newH = true := by
  have W : newH.words = newW := rfl
  have g : ∀ i, gw newH.words i = 0 := fun i => newW_get i
  refine (c_yes (l := []) ?_).1
  refine ⟨⟨newW_length, ⟨by decide, by decide⟩, ⟨by decide, by decide⟩, ⟨by decide, by decide⟩, 0, 0, 0, ⟨rfl, fun i hi => absurd hi (by omega)⟩, ⟨rfl, fun i hi => absurd hi (by omega)⟩, ⟨rfl, fun i hi => absurd hi (by omega)⟩, rfl⟩, fun i _ _ => g i, ⟨by decide, by decide⟩, ?_, ⟨?_, ?_⟩, ?_, ?_, ?_, rfl⟩
  · intro a ha; simp at ha
  · intro a ha; simp at ha
  · exact List.nodup_nil
  · show ([] : List Int).length ≤ 20; simp
  · intro x hx; exact absurd (show x ∈ ([] : List Int) from hx) (by simp)
  · intro a ha; simp at ha

set_option maxHeartbeats 400000 in
theorem likeInts_any (v u : Value) (ss : List Int) (w : World) (hv : IR w v ss) (hu : IR w u ss) (h1 : ss.length ≤ 1000000000000000) :
    Calls Tryz.prog 43 #[v, u] w fun e w' => e = .returned (.bool true) ∧ Below w.heap.size w w' := by
  obtain ⟨ao, cap, rfl, _, hv⟩ := hv
  obtain ⟨bo, cbp, rfl, _, hu⟩ := hu
  have hl' : ((ss.length : Int) != (ss.length : Int)) = false := by simp
  go_enter Tryz.func43, Tryz.ntmps43
  go_wp2
  go_loopw [5] (fun a wr => ∃ (k : Nat), a = .int .i64 k ∧ k ≤ ss.length ∧ ∃ n, wr = w.drewN n) (fun a _ => (ss.length - (intOf a).toNat))
  case atStart => exact ⟨0, rfl, Nat.zero_le _, 0, rfl⟩
  case round =>
    obtain ⟨k, rfl, hk, n, rfl⟩ := hrel
    by_cases hlt : k < ss.length
    · obtain ⟨b, o, rfl, hc⟩ := hv k hlt
      obtain ⟨b', o', rfl, hc'⟩ := hu k hlt
      generalize ss.getD k 0 = s at *
      have he : (s != s) = false := by simp
      clear hv hu
      go_wp2
      go_region
      all_goals go_wp2
      all_goals go_roundw
      case rel => exact ⟨k + 1, by go_num, by omega, _, rfl⟩
      case measure => simp [intOf]; omega
    · go_wp2
      go_ret
      exact ⟨rfl, below_drewN (Below.refl _ _) _⟩

end Go.Proofs.YtgacacbncefeaaaGreat

/- A new machine in plain words. -/
namespace Go.Proofs.YtgacacbncefeaaaGreat
open Go.RowKit

noncomputable def nT1 : Hp := newC newH 1 40
noncomputable def nT2 : Hp := newC nT1 2 10
noncomputable def nT3 : Hp := addC nT2 4001
noncomputable def nT4 : Hp := addC nT3 4089

theorem right_roots {h : Hp} {l : List Nat} (k : RightAt h l) (r : List Int) (hr : r.length ≤ 20) (hf : ∀ x, x ∈ r → fitB l x = true) : RightAt { h with roots := r } l := by
  obtain ⟨a, b, c, d, e, _, _, f, g⟩ := k
  exact ⟨a, b, c, d, e, hr, hf, f, g⟩
theorem nq1 : newB newH 1 40 = true := by
  unfold newB
  rw [new_ok]
  decide
theorem nT1_eq : nT1 = newHp newH 1 40 := new_yes nq1
theorem nT1_right : ∃ l, RightAt nT1 l ∧ 2000 ∈ l := by
  obtain ⟨l, R, m, _, _⟩ := new_right nq1
  rw [← nT1_eq] at R
  exact ⟨l, R, m⟩
theorem nT1_num : nT1.eden = 2044 ∧ nT1.hash = 2 ∧ nT1.roots = [] ∧ nT1.kept = [] ∧ nT1.words.length = 3200 := by
  rw [nT1_eq]
  refine ⟨rfl, rfl, rfl, rfl, ?_⟩
  show ((((newW.set _ _).set _ _).set _ _) : List Int).length = 3200
  rw [List.length_set, List.length_set, List.length_set, newW_length]
theorem nW1 : newW' newH 1 40 = 4001 := by
  rw [new_w1 nq1]
  rfl
theorem nq2 : newB nT1 2 10 = true := by
  obtain ⟨l, R, _⟩ := nT1_right
  obtain ⟨e1, e2, _⟩ := nT1_num
  unfold newB
  rw [(c_yes R).1, e1, e2]
  decide
theorem nT2_eq : nT2 = newHp nT1 2 10 := new_yes nq2
theorem nW2 : newW' nT1 2 10 = 4089 := by
  rw [new_w1 nq2, nT1_num.1]
  rfl
theorem nT2_right : ∃ l, RightAt nT2 l ∧ 2000 ∈ l ∧ 2044 ∈ l := by
  obtain ⟨l1, R1, m1⟩ := nT1_right
  obtain ⟨l, R, m, mo, _⟩ := new_right nq2
  rw [← nT2_eq] at R
  rw [nT1_num.1] at m
  refine ⟨l, R, mo 2000 ?_, m⟩
  rw [(c_yes R1).2]
  exact m1
theorem nT2_num : nT2.roots = [] ∧ nT2.kept = [] ∧ nT2.words.length = 3200 := by
  obtain ⟨_, _, e3, e4, e5⟩ := nT1_num
  rw [nT2_eq]
  refine ⟨e3, e4, ?_⟩
  show ((((nT1.words.set _ _).set _ _).set _ _) : List Int).length = 3200
  rw [List.length_set, List.length_set, List.length_set, e5]
theorem fit_at {l : List Nat} {a : Nat} (h : a ∈ l) (ha : a ≤ 3199) : fitB l (2 * (a : Int) + 1) = true := by
  have k2 : kindW (2 * (a : Int) + 1) = 2 := by
    unfold kindW adrB
    rw [if_pos (by omega), if_pos (by simp; omega)]
  unfold fitB
  rw [k2, show (ints l).contains ((2 * (a : Int) + 1) / 2) = true from by
    rw [List.contains_iff_mem]
    exact List.mem_map.2 ⟨a, h, by omega⟩]
  rfl
theorem nq3 : addB nT2 4001 = true := by
  obtain ⟨l, R, m, _⟩ := nT2_right
  unfold addB
  rw [(c_yes R).1, (c_yes R).2, show fitB l 4001 = true from fit_at m (by omega), nT2_num.1]
  rfl
theorem nT3_eq : nT3 = { nT2 with roots := [4001] } := by
  unfold nT3
  rw [add_yes nq3, nT2_num.1]
  rfl
theorem nT3_right : ∃ l, RightAt nT3 l ∧ 2000 ∈ l ∧ 2044 ∈ l := by
  obtain ⟨l, R, m, m2⟩ := nT2_right
  rw [nT3_eq]
  refine ⟨l, right_roots R [4001] (by simp) (fun x hx => ?_), m, m2⟩
  simp at hx
  subst hx
  exact fit_at m (by omega)
theorem nq4 : addB nT3 4089 = true := by
  obtain ⟨l, R, _, m⟩ := nT3_right
  unfold addB
  rw [(c_yes R).1, (c_yes R).2, show fitB l 4089 = true from fit_at m (by omega), nT3_eq]
  rfl
theorem nT4_eq : nT4 = { nT2 with roots := [4001, 4089] } := by
  unfold nT4
  rw [add_yes nq4, nT3_eq]
  rfl
theorem nT4_right : ∃ l, RightAt nT4 l ∧ 2000 ∈ l ∧ 2044 ∈ l := by
  obtain ⟨l, R, m, m2⟩ := nT2_right
  rw [nT4_eq]
  refine ⟨l, right_roots R [4001, 4089] (by simp) (fun x hx => ?_), m, m2⟩
  simp at hx
  rcases hx with rfl | rfl
  · exact fit_at m (by omega)
  · exact fit_at m2 (by omega)
theorem nT_len : (nT1.words.length ≤ 10000 ∧ nT1.roots.length ≤ 10000 ∧ nT1.kept.length ≤ 10000) ∧ (nT2.words.length ≤ 10000 ∧ nT2.roots.length ≤ 10000 ∧ nT2.kept.length ≤ 10000) ∧ (nT3.words.length ≤ 10000 ∧ nT3.roots.length ≤ 10000 ∧ nT3.kept.length ≤ 10000) ∧ (nT4.words.length ≤ 10000 ∧ nT4.roots.length ≤ 10000 ∧ nT4.kept.length ≤ 10000) := by
  obtain ⟨_, _, e3, e4, e5⟩ := nT1_num
  obtain ⟨f3, f4, f5⟩ := nT2_num
  rw [nT3_eq, nT4_eq]
  refine ⟨⟨by omega, by rw [e3]; simp, by rw [e4]; simp⟩, ⟨by omega, by rw [f3]; simp, by rw [f4]; simp⟩, ⟨?_, ?_, ?_⟩, ?_, ?_, ?_⟩
  · show nT2.words.length ≤ _; omega
  · show ([4001] : List Int).length ≤ _; simp
  · show nT2.kept.length ≤ _; rw [f4]; simp
  · show nT2.words.length ≤ _; omega
  · show ([4001, 4089] : List Int).length ≤ _; simp
  · show nT2.kept.length ≤ _; rw [f4]; simp

noncomputable def nvM (pr : List Cd) : Mp := ⟨nT4, pr, 0, [], 0⟩
def zeroM : Mp := ⟨zeroH, [], 0, [], 0⟩
/-- What NewVm answers. -/
noncomputable def nvR (pr : List Cd) : Mp := if progB pr = true then nvM pr else zeroM

end Go.Proofs.YtgacacbncefeaaaGreat

/- Boxes that are written in part. -/
namespace Go.Proofs.YtgacacbncefeaaaGreat
open Go.RowKit

theorem Bk.part {w : World} {b : Nat} {C : Array Value} {t' : TypeId} (h : Bk w b C t') (t : TypeId) (o : Nat) (cs C' : Array Value) (hn : o + cs.size ≤ C.size) (hi : (Tryz.prog.info? t).map (·.size) = some cs.size) (h1 : cs.all (·.oneCell') = true) (hC : C' = (C.toList.take o ++ cs.toList ++ C.toList.drop (o + cs.size)).toArray) :
    ∃ w', (Instr.storeAt t (.pointer (some ⟨b, o, none⟩)) (.agg cs)).run Tryz.prog w = .ok () w' ∧ Bk w' b C' t' ∧ w.grownBy w' (some b) ∧ w'.heap.size = w.heap.size := by
  subst hC
  refine ⟨w.setRow b (C.toList.take o ++ cs.toList ++ C.toList.drop (o + cs.size)).toArray, ?_, setRow_heap w b C _ t' _ h, ?_, ?_⟩
  · have hst := run_storeCells_at Tryz.prog b o t' cs.toList 0 C w h (by simp; omega) (fun v hv => by
      have q := Array.all_eq_true'.1 h1 v (by simpa using hv)
      exact q)
    have e : (C.toList.take (o + 0) ++ cs.toList ++ C.toList.drop (o + 0 + cs.toList.length)).toArray = (C.toList.take o ++ cs.toList ++ C.toList.drop (o + cs.size)).toArray := by simp
    rw [e] at hst
    obtain ⟨i, hi', hs⟩ := Option.map_eq_some_iff.1 hi
    simp [Instr.storeAt, Instr.sureAddr, storeVar, sizeOf, typeInfo, hi', hs, Value.cells] at hst ⊢
    exact hst
  · refine ⟨rfl, rfl, rfl, ?_, fun i _ hne => ?_⟩
    · simp [World.setRow]
    · simp [World.setRow, Array.getElem?_modify]
      intro e
      exact absurd (by rw [e]) hne
  · simp [World.setRow]
theorem Bk.setc {w : World} {b : Nat} {C : Array Value} {t : TypeId} (h : Bk w b C t) (j : Nat) (v : Value) (C' : Array Value) (hC : C' = C.setIfInBounds j v) : Bk (w.setCell ⟨b, j, none⟩ v) b C' t := by
  subst hC
  unfold Bk
  rw [setCell_eq_setRow w b j C t (0, 0) v h]
  exact setRow_heap w b C _ t _ h
theorem Bk.setOther {w : World} {b g j : Nat} {C : Array Value} {t : TypeId} (h : Bk w b C t) (hb : b ≠ g) (v : Value) : Bk (w.setCell ⟨g, j, none⟩ v) b C t := (Below.heap_setCell _ _ _ _ hb).trans h
theorem wp_storeK {ops : Array Oper} {rest : List Oper} {o : Oper} {a : Act} {Q : Exit → Act → World → Prop} {w w' : World} {t : TypeId} {Av u : Value} (hrun : (Instr.storeAt t Av u).run Tryz.prog w = .ok () w') (hg : o.guard = none) (p s : Operand) (hop : o.op = Op.store t p s) (hp : a.eval p = Av) (hs : a.eval s = u) (hd : o.dst = none)
    (h : wpList Tryz.prog ops Q rest a w') : wpList Tryz.prog ops Q (o :: rest) a w := by
  refine wpList_plain hg fun K hK => ?_
  unfold Oper.wp
  simp [execOp, hop, hp, hs, hrun, Result.andThen]
  refine hK _ _ ?_
  rw [hd]
  exact h

end Go.Proofs.YtgacacbncefeaaaGreat
