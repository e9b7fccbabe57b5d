/- The scavenger in plain words: a young object is moved, and what stays as it was. -/
import Derived.Test.YtboiknllmnfipaaDoorZU6
namespace Go.Proofs.YtboiknllmnfipaaDoor
open Go.RowKit

/-- A scavenge under way: the words, where the old space and the survivors end, where each young object went (its address and 1), what was moved, whether there was no room. -/
structure SV where
  W : List Int
  old : Nat
  to : Nat
  went : List Nat
  q : List Nat
  full : Bool

def tb (h : Hp) : Nat := survB (!h.flip)
def frm (h : Hp) (j : Nat) : Prop := (2000 ≤ j ∧ j < 2600) ∨ (survB h.flip ≤ j ∧ j < survB h.flip + 300)
def ageOf (W : List Int) (a : Nat) : Int := if gw W (a + 3) + 1 < 15 then gw W (a + 3) + 1 else 15
def mvW (W : List Int) (d a : Nat) : List Int := (splice W d ((W.drop a).take (4 + (gw W a).toNat))).set (d + 3) (ageOf W a)
def mvTo (s : SV) (a d : Nat) (old to : Nat) : SV := { s with W := mvW s.W d a, old := old, to := to, went := s.went.set a (d + 1), q := s.q ++ [d] }
/-- A word is moved: the state behind it, and the word. -/
def mv (lim : Nat) (s : SV) (x : Int) : SV × Int :=
  if (youngS x && !s.full) = true then
    (if 0 < s.went.getD (x / 2).toNat 0 then (s, 2 * ((s.went.getD (x / 2).toNat 0 : Nat) - 1 : Int) + 1)
    else if 3 ≤ ageOf s.W (x / 2).toNat ∨ lim < s.to + (4 + (gw s.W (x / 2).toNat).toNat) then
      (if 2000 < s.old + (4 + (gw s.W (x / 2).toNat).toNat) then ({ s with full := true }, x)
      else (mvTo s (x / 2).toNat s.old (s.old + (4 + (gw s.W (x / 2).toNat).toNat)) s.to, 2 * (s.old : Int) + 1))
    else (mvTo s (x / 2).toNat s.to s.old (s.to + (4 + (gw s.W (x / 2).toNat).toNat)), 2 * (s.to : Int) + 1))
  else (s, x)

def smallI (x : Int) : Prop := -4000000000000000000 ≤ x ∧ x ≤ 4000000000000000000

structure SI (h : Hp) (l : List Nat) (s : SV) : Prop where
  len : s.W.length = 3200
  wlen : s.went.length = 3200
  same : ∀ j, frm h j → gw s.W j = gw h.words j
  old0 : h.old.toNat ≤ s.old
  old1 : s.old ≤ 2000
  to0 : tb h ≤ s.to
  to1 : s.to ≤ tb h + 300
  wnt : ∀ a, s.went.getD a 0 ≤ 3200
  ar : ∀ d, d ∈ s.q → (0 ≤ gw s.W d ∧ gw s.W d ≤ 60) ∧ ((h.old.toNat ≤ d ∧ nx s.W d ≤ s.old) ∨ (tb h ≤ d ∧ nx s.W d ≤ s.to))
  dis : s.q.Pairwise fun d e => nx s.W d ≤ e ∨ nx s.W e ≤ d
  qlen : 4 * s.q.length + h.old.toNat + tb h ≤ s.old + s.to
  sm : ∀ j, smallI (gw s.W j)
  g0 : ∃ m, Goes s.W 0 s.old m ∧ (∀ a, a ∈ l → a < 2000 → a ∈ its s.W 0 m ∧ gw s.W a = gw h.words a) ∧ ∀ d, d ∈ s.q → d < 2000 → d ∈ its s.W 0 m
  g2 : ∃ m, Goes s.W (tb h) s.to m ∧ ∀ d, d ∈ s.q → 2000 ≤ d → d ∈ its s.W (tb h) m
  z0 : ∀ j, s.old ≤ j → j < 2000 → gw s.W j = 0
  z2 : ∀ j, s.to ≤ j → j < tb h + 300 → gw s.W j = 0

theorem tb_two (h : Hp) : (tb h = 2600 ∧ survB h.flip = 2900) ∨ (tb h = 2900 ∧ survB h.flip = 2600) := by
  unfold tb survB
  cases h.flip
  · right; exact ⟨rfl, rfl⟩
  · left; exact ⟨rfl, rfl⟩
theorem frm_not {h : Hp} {j : Nat} (k : frm h j) : 2000 ≤ j ∧ ¬ (tb h ≤ j ∧ j < tb h + 300) := by
  unfold frm at k
  rcases tb_two h with ⟨a, b⟩ | ⟨a, b⟩ <;> omega
theorem young_area {h : Hp} {l : List Nat} (R : RightAt h l) {a j : Nat} (ha : a ∈ l) (hy : 2000 ≤ a) (h1 : a ≤ j) (h2 : j < nx h.words a) : frm h j := by
  obtain ⟨_, r0, r1, r2, n0, n1, n2, g0, g1, g2, rfl⟩ := R.1
  rw [List.mem_append, List.mem_append] at ha
  unfold frm
  rcases ha with (ha | ha) | ha
  · have := goes_in g0 ha; omega
  · have := goes_in g1 ha; omega
  · have := goes_in g2 ha; omega
theorem old_area {h : Hp} {l : List Nat} (R : RightAt h l) {a : Nat} (ha : a ∈ l) (hy : a < 2000) : nx h.words a ≤ h.old.toNat := by
  obtain ⟨_, r0, r1, r2, n0, n1, n2, g0, g1, g2, rfl⟩ := R.1
  have hs : 2600 ≤ survB h.flip := by unfold survB; split <;> omega
  rw [List.mem_append, List.mem_append] at ha
  rcases ha with (ha | ha) | ha
  · have := goes_in g0 ha; omega
  · have := goes_in g1 ha; omega
  · have := goes_in g2 ha; omega

/-- A young word of a right heap is the address of an object in the part that is left. -/
theorem young_obj {h : Hp} {l : List Nat} (R : RightAt h l) {x : Int} (hf : fitB l x = true) (hy : youngS x = true) : ∃ a : Nat, a ∈ l ∧ x / 2 = a ∧ 2000 ≤ a ∧ a + 4 ≤ 3200 ∧ nx h.words a ≤ 3200 ∧ (0 ≤ gw h.words a ∧ gw h.words a ≤ 60) ∧ (0 ≤ gw h.words (a + 3) ∧ gw h.words (a + 3) ≤ 15) := by
  rw [young_eq (fit_kind hf)] at hy
  unfold youngB at hy
  rw [Bool.and_eq_true] at hy
  have k : kindW x = 2 := of_decide_eq_true hy.1
  rw [fit_ref (decide_eq_true k), List.contains_iff_mem] at hf
  obtain ⟨a, ha, e⟩ := List.mem_map.1 hf
  obtain ⟨o1, o2, o3⟩ := R.1.obj ha
  have y := of_decide_eq_true hy.2
  refine ⟨a, ha, e.symm, by omega, o1, o2, size_of o3, ?_⟩
  unfold headB at o3
  rw [Bool.and_eq_true, Bool.and_eq_true] at o3
  exact of_decide_eq_true o3.2.2

theorem mvW_len {W : List Int} {d a : Nat} (h : d + (4 + (gw W a).toNat) ≤ W.length) (_h2 : a + (4 + (gw W a).toNat) ≤ W.length) : (mvW W d a).length = W.length := by
  unfold mvW
  rw [List.length_set, length_splice _ _ _ (by rw [List.length_take, List.length_drop]; omega)]
theorem mvW_gw {W : List Int} {d a : Nat} (h : d + (4 + (gw W a).toNat) ≤ W.length) (h2 : a + (4 + (gw W a).toNat) ≤ W.length) (j : Nat) :
    gw (mvW W d a) j = if j = d + 3 then ageOf W a else if d ≤ j ∧ j < d + (4 + (gw W a).toNat) then gw W (a + (j - d)) else gw W j := by
  have ll : ((W.drop a).take (4 + (gw W a).toNat)).length = 4 + (gw W a).toNat := by rw [List.length_take, List.length_drop]; omega
  have hl : d + ((W.drop a).take (4 + (gw W a).toNat)).length ≤ W.length := by rw [ll]; exact h
  unfold mvW
  rw [gw_set _ _ _ _ (by rw [length_splice _ _ _ hl]; omega)]
  by_cases e : j = d + 3
  · rw [if_pos e, if_pos e]
  rw [if_neg e, if_neg e]
  show (splice W d _).getD j 0 = _
  rw [splice_get _ _ _ _ hl, ll]
  by_cases h1 : j < d
  · rw [if_pos h1, if_neg (by omega)]
    rfl
  rw [if_neg h1]
  by_cases h3 : j < d + (4 + (gw W a).toNat)
  · rw [if_pos h3, if_pos ⟨by omega, h3⟩]
    have hj : j - d < 4 + (gw W a).toNat := by omega
    show ((W.drop a).take (4 + (gw W a).toNat)).getD (j - d) 0 = W.getD (a + (j - d)) 0
    simp only [List.getD_eq_getElem?_getD]
    rw [List.getElem?_take_of_lt hj, List.getElem?_drop]
  · rw [if_neg h3, if_neg (by omega)]
    rfl

/-- What mv leaves as it was, and what it adds. -/
structure Mvd (h : Hp) (l : List Nat) (s s' : SV) : Prop where
  si : SI h l s'
  out : ∀ j, ¬ (s.old ≤ j ∧ j < 2000) → ¬ (s.to ≤ j ∧ j < tb h + 300) → gw s'.W j = gw s.W j
  old : s.old ≤ s'.old
  to : s.to ≤ s'.to
  q : s'.q = s.q ∨ ∃ d, s'.q = s.q ++ [d] ∧ ∀ k, d + 4 ≤ k → k < nx s'.W d → fitB l (gw s'.W k) = true
theorem Mvd.refl {h : Hp} {l : List Nat} {s : SV} (k : SI h l s) : Mvd h l s s := ⟨k, fun _ _ _ => rfl, Nat.le_refl _, Nat.le_refl _, .inl rfl⟩

theorem small_fit {l : List Nat} {x : Int} (h : fitB l x = true) : smallI x := by
  have k := fit_kind h
  have := half_le k
  unfold smallI
  by_cases e : x % 2 = 0
  · rw [kind_even e] at k
    split at k
    · rename_i ha
      have hx := of_decide_eq_true ha
      omega
    · exact absurd rfl k
  · rw [kind_odd e] at k
    split at k
    · rename_i ha
      have hx := of_decide_eq_true ha
      omega
    · exact absurd rfl k

theorem mvTo_keep {h : Hp} {l : List Nat} (R : RightAt h l) {s : SV} (S : SI h l s) {a : Nat} (ha : a ∈ l) (hy : 2000 ≤ a) (d old to : Nat)
    (hd : (d = s.old ∧ old = s.old + (4 + (gw s.W a).toNat) ∧ to = s.to ∧ old ≤ 2000) ∨ (d = s.to ∧ to = s.to + (4 + (gw s.W a).toNat) ∧ old = s.old ∧ to ≤ tb h + 300)) : Mvd h l s (mvTo s a d old to) ∧ d < 3200 := by
  obtain ⟨o1, o2, o3⟩ := R.1.obj ha
  have sz := size_of o3
  have sa : ∀ j, a ≤ j → j < nx h.words a → gw s.W j = gw h.words j := fun j h1 h2 => S.same j (young_area R ha hy h1 h2)
  have nxe : nx h.words a = a + 4 + (gw h.words a).toNat := rfl
  have e0 : gw s.W a = gw h.words a := sa a (Nat.le_refl _) (by omega)
  rw [e0] at hd
  have t3 := tb_two h
  have len := S.len
  have oo := S.old0
  have o0 := S.old1
  have t0 := S.to0
  have t1 := S.to1
  have h1 : d + (4 + (gw s.W a).toNat) ≤ s.W.length := by rw [e0, len]; omega
  have h2 : a + (4 + (gw s.W a).toNat) ≤ s.W.length := by rw [e0, len]; omega
  have G := mvW_gw h1 h2
  rw [e0] at G
  have ho : ∀ j, ¬ (s.old ≤ j ∧ j < 2000) → ¬ (s.to ≤ j ∧ j < tb h + 300) → gw (mvW s.W d a) j = gw s.W j := fun j n1 n2 => by
    rw [G, if_neg (by omega), if_neg (by omega)]
  have gd : gw (mvW s.W d a) d = gw h.words a := by
    rw [G, if_neg (by omega), if_pos (by omega), Nat.sub_self, Nat.add_zero, e0]
  have ag : 0 ≤ ageOf s.W a ∧ ageOf s.W a ≤ 15 := by
    unfold headB at o3
    rw [Bool.and_eq_true, Bool.and_eq_true] at o3
    have q := of_decide_eq_true o3.2.2
    unfold ageOf
    rw [sa (a + 3) (by omega) (by omega)]
    split <;> omega
  have hdB : headB (mvW s.W d a) d = true := by
    have o3' := o3
    unfold headB at o3' ⊢
    rw [Bool.and_eq_true, Bool.and_eq_true] at o3' ⊢
    have c1 : gw (mvW s.W d a) (d + 1) = gw h.words (a + 1) := by
      rw [G, if_neg (by omega), if_pos (by omega), show d + 1 - d = 1 from by omega]
      exact sa (a + 1) (by omega) (by omega)
    have c3 : gw (mvW s.W d a) (d + 3) = ageOf s.W a := by rw [G, if_pos rfl]
    rw [gd, c1, c3]
    exact ⟨o3'.1, o3'.2.1, decide_eq_true ag⟩
  have inq : ∀ e, e ∈ s.q → gw (mvW s.W d a) e = gw s.W e := fun e he => by
    have q := S.ar e he
    have : nx s.W e = e + 4 + (gw s.W e).toNat := rfl
    exact ho e (by omega) (by omega)
  have inx : ∀ e, e ∈ s.q → nx (mvW s.W d a) e = nx s.W e := fun e he => by unfold nx; rw [inq e he]
  have nd : nx (mvW s.W d a) d = d + 4 + (gw h.words a).toNat := by unfold nx; rw [gd]
  refine ⟨⟨⟨by show (mvW s.W d a).length = 3200; rw [mvW_len h1 h2, len], by show (s.went.set a (d + 1)).length = 3200; rw [List.length_set]; exact S.wlen, fun j hj => ?_, by show h.old.toNat ≤ old; omega, by show old ≤ 2000; omega, by show tb h ≤ to; omega, by show to ≤ tb h + 300; omega, fun b => ?_, fun e he => ?_, ?_, ?_, fun j => ?_, ?_, ?_, fun j j1 j2 => ?_, fun j j1 j2 => ?_⟩, ho, by show s.old ≤ old; omega, by show s.to ≤ to; omega, .inr ⟨d, rfl, fun k k1 k2 => ?_⟩⟩, by omega⟩
  · have q := frm_not hj
    show gw (mvW s.W d a) j = gw h.words j
    rw [ho j (by omega) (by omega)]
    exact S.same j hj
  · show (s.went.set a (d + 1)).getD b 0 ≤ 3200
    simp only [List.getD_eq_getElem?_getD, List.getElem?_set]
    by_cases e : a = b
    · subst e
      rw [if_pos rfl]
      split <;> simp <;> omega
    · rw [if_neg e]
      have := S.wnt b
      rw [List.getD_eq_getElem?_getD] at this
      exact this
  · have he' : e ∈ s.q ++ [d] := he
    rw [List.mem_append, List.mem_singleton] at he'
    show (0 ≤ gw (mvW s.W d a) e ∧ gw (mvW s.W d a) e ≤ 60) ∧ ((h.old.toNat ≤ e ∧ nx (mvW s.W d a) e ≤ old) ∨ (tb h ≤ e ∧ nx (mvW s.W d a) e ≤ to))
    rcases he' with he' | rfl
    · rw [inq e he', inx e he']
      have q := S.ar e he'
      refine ⟨q.1, ?_⟩
      omega
    · rw [gd, nd]
      refine ⟨sz, ?_⟩
      omega
  · show (s.q ++ [d]).Pairwise fun d1 e1 => nx (mvW s.W d a) d1 ≤ e1 ∨ nx (mvW s.W d a) e1 ≤ d1
    rw [List.pairwise_append]
    refine ⟨List.Pairwise.imp_of_mem (fun {x y} hx hy' q => ?_) S.dis, List.pairwise_singleton _ _, fun x hx y hy' => ?_⟩
    · rw [inx x hx, inx y hy']
      exact q
    · rw [List.mem_singleton] at hy'
      subst hy'
      rw [inx x hx, nd]
      have q := S.ar x hx
      have : nx s.W x = x + 4 + (gw s.W x).toNat := rfl
      omega
  · show 4 * (s.q ++ [d]).length + h.old.toNat + tb h ≤ old + to
    rw [List.length_append, List.length_singleton]
    have := S.qlen
    omega
  · show smallI (gw (mvW s.W d a) j)
    rw [G]
    split
    · unfold smallI; omega
    split
    · exact S.sm _
    · exact S.sm _
  · obtain ⟨m, g, q1, q2⟩ := S.g0
    have low : ∀ b, b ∈ its s.W 0 m → ∀ k, k < 4 → gw (mvW s.W d a) (b + k) = gw s.W (b + k) := fun b hb k hk => by
      have := goes_in g hb
      exact ho _ (by omega) (by omega)
    obtain ⟨g', e'⟩ := goes_same g low
    have l0 : ∀ b, b ∈ its s.W 0 m → b < s.old := fun b hb => by have := goes_in g hb; omega
    rcases hd with ⟨rfl, rfl, rfl, hd⟩ | ⟨rfl, rfl, rfl, hd⟩
    · refine ⟨m + 1, ⟨?_, fun i hi => ?_⟩, fun b hb b2 => ?_, fun e he e2 => ?_⟩
      · show nx (mvW s.W s.old a) (it (mvW s.W s.old a) 0 m) = s.old + (4 + (gw h.words a).toNat)
        rw [g'.1, nd]
        omega
      · rcases Nat.lt_or_ge i m with k | k
        · exact g'.2 i k
        · obtain rfl : i = m := by omega
          show headB (mvW s.W s.old a) (it (mvW s.W s.old a) 0 i) = true
          rw [g'.1]
          exact hdB
      · show b ∈ its (mvW s.W s.old a) 0 (m + 1) ∧ gw (mvW s.W s.old a) b = gw h.words b
        rw [its_succ, e', List.mem_append]
        exact ⟨.inl (q1 b hb b2).1, by rw [show gw (mvW s.W s.old a) b = gw s.W b from low b (q1 b hb b2).1 0 (by omega)]; exact (q1 b hb b2).2⟩
      · show e ∈ its (mvW s.W s.old a) 0 (m + 1)
        have he' : e ∈ s.q ++ [s.old] := he
        rw [its_succ, e', g'.1]
        rw [List.mem_append, List.mem_singleton] at he' ⊢
        exact he'.imp (fun q => q2 e q e2) id
    · refine ⟨m, g', fun b hb b2 => ?_, fun e he e2 => ?_⟩
      · show b ∈ its (mvW s.W s.to a) 0 m ∧ gw (mvW s.W s.to a) b = gw h.words b
        rw [e']
        exact ⟨(q1 b hb b2).1, by rw [show gw (mvW s.W s.to a) b = gw s.W b from low b (q1 b hb b2).1 0 (by omega)]; exact (q1 b hb b2).2⟩
      · show e ∈ its (mvW s.W s.to a) 0 m
        have he' : e ∈ s.q ++ [s.to] := he
        rw [List.mem_append, List.mem_singleton] at he'
        rw [e']
        rcases he' with q | q
        · exact q2 e q e2
        · omega
  · obtain ⟨m, g, q2⟩ := S.g2
    have low : ∀ b, b ∈ its s.W (tb h) m → ∀ k, k < 4 → gw (mvW s.W d a) (b + k) = gw s.W (b + k) := fun b hb k hk => by
      have := goes_in g hb
      exact ho _ (by omega) (by omega)
    obtain ⟨g', e'⟩ := goes_same g low
    rcases hd with ⟨rfl, rfl, rfl, hd⟩ | ⟨rfl, rfl, rfl, hd⟩
    · refine ⟨m, g', fun e he e2 => ?_⟩
      show e ∈ its (mvW s.W s.old a) (tb h) m
      have he' : e ∈ s.q ++ [s.old] := he
      rw [List.mem_append, List.mem_singleton] at he'
      rw [e']
      rcases he' with q | q
      · exact q2 e q e2
      · omega
    · refine ⟨m + 1, ⟨?_, fun i hi => ?_⟩, fun e he e2 => ?_⟩
      · show nx (mvW s.W s.to a) (it (mvW s.W s.to a) (tb h) m) = s.to + (4 + (gw h.words a).toNat)
        rw [g'.1, nd]
        omega
      · rcases Nat.lt_or_ge i m with k | k
        · exact g'.2 i k
        · obtain rfl : i = m := by omega
          show headB (mvW s.W s.to a) (it (mvW s.W s.to a) (tb h) i) = true
          rw [g'.1]
          exact hdB
      · show e ∈ its (mvW s.W s.to a) (tb h) (m + 1)
        have he' : e ∈ s.q ++ [s.to] := he
        rw [its_succ, e', g'.1]
        rw [List.mem_append, List.mem_singleton] at he' ⊢
        exact he'.imp (fun q => q2 e q e2) id
  · have j1' : old ≤ j := j1
    show gw (mvW s.W d a) j = 0
    rw [G, if_neg (by omega), if_neg (by omega)]
    exact S.z0 j (by omega) j2
  · have j1' : to ≤ j := j1
    show gw (mvW s.W d a) j = 0
    rw [G, if_neg (by omega), if_neg (by omega)]
    exact S.z2 j (by omega) j2
  · have k2' : k < nx (mvW s.W d a) d := k2
    rw [nd] at k2'
    show fitB l (gw (mvW s.W d a) k) = true
    rw [G, if_neg (by omega), if_pos (by omega), sa _ (by omega) (by omega)]
    exact R.2.2.2.2.2.2.2.1 a ha _ (by omega) (by omega)

/-- A word that fits is moved. -/
theorem mv_keep {h : Hp} {l : List Nat} (R : RightAt h l) {s : SV} (S : SI h l s) {x : Int} (hf : fitB l x = true) : Mvd h l s (mv (tb h + 300) s x).1 ∧ smallI (mv (tb h + 300) s x).2 := by
  unfold mv
  by_cases hy : (youngS x && !s.full) = true
  · rw [if_pos hy]
    rw [Bool.and_eq_true] at hy
    obtain ⟨a, ha, ea, y2, o1, o2, sz, ag⟩ := young_obj R hf hy.1
    rw [ea, Int.toNat_natCast]
    by_cases hw : 0 < s.went.getD a 0
    · rw [if_pos hw]
      have := S.wnt a
      exact ⟨Mvd.refl S, by unfold smallI; omega⟩
    rw [if_neg hw]
    by_cases hg : 3 ≤ ageOf s.W a ∨ tb h + 300 < s.to + (4 + (gw s.W a).toNat)
    · rw [if_pos hg]
      by_cases hfl : 2000 < s.old + (4 + (gw s.W a).toNat)
      · rw [if_pos hfl]
        exact ⟨⟨⟨S.len, S.wlen, S.same, S.old0, S.old1, S.to0, S.to1, S.wnt, S.ar, S.dis, S.qlen, S.sm, S.g0, S.g2, S.z0, S.z2⟩, fun _ _ _ => rfl, Nat.le_refl _, Nat.le_refl _, .inl rfl⟩, small_fit hf⟩
      · rw [if_neg hfl]
        have q := mvTo_keep R S ha y2 s.old (s.old + (4 + (gw s.W a).toNat)) s.to (.inl ⟨rfl, rfl, rfl, by omega⟩)
        exact ⟨q.1, by unfold smallI; omega⟩
    · rw [if_neg hg]
      have q := mvTo_keep R S ha y2 s.to s.old (s.to + (4 + (gw s.W a).toNat)) (.inr ⟨rfl, rfl, rfl, by omega⟩)
      exact ⟨q.1, by unfold smallI; omega⟩
  · rw [if_neg hy]
    exact ⟨Mvd.refl S, small_fit hf⟩

/-- A field is set: of an old object that was, or of one that was moved. -/
theorem set_keep {h : Hp} {l : List Nat} (R : RightAt h l) {s : SV} (S : SI h l s) {f : Nat} {y : Int} (hf0 : (∃ a, a ∈ l ∧ a < 2000 ∧ a + 4 ≤ f ∧ f < nx h.words a) ∨ ∃ d, d ∈ s.q ∧ d + 4 ≤ f ∧ f < nx s.W d) (hy : smallI y) :
    SI h l { s with W := s.W.set f y } ∧ (∀ j, gw (s.W.set f y) j = if j = f then y else gw s.W j) ∧ ∀ d, d ∈ s.q → nx (s.W.set f y) d = nx s.W d := by
  have t3 := tb_two h
  have oo := S.old1
  have t1 := S.to1
  have t0 := S.to0
  have o0 := S.old0
  have hf : f < h.old.toNat ∨ ∃ d, d ∈ s.q ∧ d + 4 ≤ f ∧ f < nx s.W d := by
    rcases hf0 with ⟨a, ha, a2, f1, f2⟩ | q
    · have := old_area R ha a2
      exact .inl (by omega)
    · exact .inr q
  have own0 : ∀ m, Goes s.W 0 s.old m → (∀ a, a ∈ l → a < 2000 → a ∈ its s.W 0 m ∧ gw s.W a = gw h.words a) → (∀ d, d ∈ s.q → d < 2000 → d ∈ its s.W 0 m) → ∀ b, b ∈ its s.W 0 m → ∀ k, k < 4 → b + k ≠ f := fun m g q1 q2 b hb k hk e => by
    have gb := goes_in g hb
    obtain ⟨p, hp, p1, p2⟩ : ∃ p, p ∈ its s.W 0 m ∧ p + 4 ≤ f ∧ f < nx s.W p := by
      rcases hf0 with ⟨a, ha, a2, f1, f2⟩ | ⟨d, hd, f1, f2⟩
      · have q := q1 a ha a2
        refine ⟨a, q.1, f1, ?_⟩
        unfold nx at f2 ⊢
        rw [q.2]
        exact f2
      · have ar := S.ar d hd
        exact ⟨d, q2 d hd (by omega), f1, f2⟩
    rcases Nat.lt_trichotomy b p with c | c | c
    · have := its_apart hb hp c; omega
    · omega
    · have := its_apart hp hb c; omega
  have own2 : ∀ m, Goes s.W (tb h) s.to m → (∀ d, d ∈ s.q → 2000 ≤ d → d ∈ its s.W (tb h) m) → ∀ b, b ∈ its s.W (tb h) m → ∀ k, k < 4 → b + k ≠ f := fun m g q2 b hb k hk e => by
    have gb := goes_in g hb
    clear hf own0
    rcases hf0 with ⟨a, ha, a2, f1, f2⟩ | ⟨d, hd, f1, f2⟩
    · have := old_area R ha a2
      omega
    · have ar := S.ar d hd
      have hp := q2 d hd (by omega)
      rcases Nat.lt_trichotomy b d with c | c | c
      · have := its_apart hb hp c; omega
      · omega
      · have := its_apart hp hb c; omega
  have lowf : f < s.old ∨ (tb h ≤ f ∧ f < s.to) := by
    rcases hf with q | ⟨d, hd, f1, f2⟩
    · exact .inl (by omega)
    · have := S.ar d hd
      omega
  have fl : f < 3200 ∧ ¬ frm h f ∧ ∀ d, d ∈ s.q → d ≠ f := by
    rcases hf with hf | ⟨d, hd, f1, f2⟩
    · refine ⟨by omega, fun q => by have := frm_not q; omega, fun d hd e => ?_⟩
      have := S.ar d hd
      omega
    · have q := S.ar d hd
      refine ⟨by omega, fun q => by have := frm_not q; omega, fun e he ee => ?_⟩
      subst ee
      rcases Nat.lt_trichotomy d e with k | k | k
      · have dd := S.dis
        have hne : d ≠ e := by omega
        have : nx s.W d ≤ e ∨ nx s.W e ≤ d := by
          obtain ⟨i, hi, ei⟩ := List.getElem_of_mem hd
          obtain ⟨j, hj, ej⟩ := List.getElem_of_mem he
          have P := List.pairwise_iff_getElem.1 dd
          rcases Nat.lt_trichotomy i j with a | a | a
          · have := P i j hi hj a
            rw [ei, ej] at this
            exact this
          · subst a
            exact absurd (ei.symm.trans ej) hne
          · have := P j i hj hi a
            rw [ei, ej] at this
            exact this.symm
        have : nx s.W e = e + 4 + (gw s.W e).toNat := rfl
        omega
      · omega
      · omega
  have G : ∀ j, gw (s.W.set f y) j = if j = f then y else gw s.W j := fun j => gw_set _ _ _ _ (by rw [S.len]; exact fl.1)
  have Q : ∀ d, d ∈ s.q → gw (s.W.set f y) d = gw s.W d := fun d hd => by rw [G, if_neg (fl.2.2 d hd)]
  have N : ∀ d, d ∈ s.q → nx (s.W.set f y) d = nx s.W d := fun d hd => by unfold nx; rw [Q d hd]
  refine ⟨⟨by show (s.W.set f y).length = 3200; rw [List.length_set]; exact S.len, S.wlen, fun j hj => ?_, S.old0, S.old1, S.to0, S.to1, S.wnt, fun d hd => ?_, ?_, S.qlen, fun j => ?_, ?_, ?_, fun j j1 j2 => ?_, fun j j1 j2 => ?_⟩, G, N⟩
  · show gw (s.W.set f y) j = _
    rw [G, if_neg (by rintro rfl; exact fl.2.1 hj)]
    exact S.same j hj
  · show (0 ≤ gw (s.W.set f y) d ∧ gw (s.W.set f y) d ≤ 60) ∧ ((h.old.toNat ≤ d ∧ nx (s.W.set f y) d ≤ s.old) ∨ (tb h ≤ d ∧ nx (s.W.set f y) d ≤ s.to))
    rw [Q d hd, N d hd]
    exact S.ar d hd
  · show s.q.Pairwise fun d e => nx (s.W.set f y) d ≤ e ∨ nx (s.W.set f y) e ≤ d
    refine List.Pairwise.imp_of_mem (fun {a b} ha hb q => ?_) S.dis
    rw [N a ha, N b hb]
    exact q
  · show smallI (gw (s.W.set f y) j)
    rw [G]
    split
    · exact hy
    · exact S.sm j
  · obtain ⟨m, g, q1, q2⟩ := S.g0
    obtain ⟨g', e'⟩ := goes_same (V := s.W.set f y) g (fun b hb k hk => by rw [G, if_neg (own0 m g q1 q2 b hb k hk)])
    refine ⟨m, g', fun a ha a2 => ?_, fun d hd d2 => ?_⟩
    · show a ∈ its (s.W.set f y) 0 m ∧ gw (s.W.set f y) a = gw h.words a
      have q := q1 a ha a2
      rw [e', G, if_neg (show ¬ a = f from own0 m g q1 q2 a q.1 0 (by omega))]
      exact q
    · show d ∈ its (s.W.set f y) 0 m
      rw [e']
      exact q2 d hd d2
  · obtain ⟨m, g, q2⟩ := S.g2
    obtain ⟨g', e'⟩ := goes_same (V := s.W.set f y) g (fun b hb k hk => by rw [G, if_neg (own2 m g q2 b hb k hk)])
    refine ⟨m, g', fun d hd d2 => ?_⟩
    show d ∈ its (s.W.set f y) (tb h) m
    rw [e']
    exact q2 d hd d2
  · have j1' : s.old ≤ j := j1
    show gw (s.W.set f y) j = 0
    rw [G, if_neg (by omega)]
    exact S.z0 j j1' j2
  · have j1' : s.to ≤ j := j1
    show gw (s.W.set f y) j = 0
    rw [G, if_neg (by omega)]
    exact S.z2 j j1' j2

end Go.Proofs.YtboiknllmnfipaaDoor
