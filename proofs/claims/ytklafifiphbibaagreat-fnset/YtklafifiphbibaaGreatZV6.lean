
import Derived.Test.YtklafifiphbibaaGreatZV5
/- The scavenger in plain words: a young object is moved, and what stays as it was. -/
namespace Go.Proofs.YtklafifiphbibaaGreat
open Go.RowKit

/-- A scavenge under way: the words, where the old space and the survivors end, where each young object went (its address and 1), what was moved, whether there was no room. -/
structure SV where
  W : List Int
  old : Nat
  to : Nat
  went : List Nat
  q : List Nat
  full : Bool

def tb (h : Hp) : Nat := survB (!h.flip)
def frm (h : Hp) (j : Nat) : Prop := (2000 ≤ j ∧ j < 2600) ∨ (survB h.flip ≤ j ∧ j < survB h.flip + 300)
def ageOf (W : List Int) (a : Nat) : Int := if gw W (a + 3) + 1 < 15 then gw W (a + 3) + 1 else 15
def mvW (W : List Int) (d a : Nat) : List Int := (splice W d ((W.drop a).take (4 + (gw W a).toNat))).set (d + 3) (ageOf W a)
def mvTo (s : SV) (a d : Nat) (old to : Nat) : SV := { s with W := mvW s.W d a, old := old, to := to, went := s.went.set a (d + 1), q := s.q ++ [d] }
/-- A word is moved: the state behind it, and the word. -/
def mv (lim : Nat) (s : SV) (x : Int) : SV × Int :=
  if (youngS x && !s.full) = true then
    (if 0 < s.went.getD (x / 2).toNat 0 then (s, 2 * ((s.went.getD (x / 2).toNat 0 : Nat) - 1 : Int) + 1)
    else if 3 ≤ ageOf s.W (x / 2).toNat ∨ lim < s.to + (4 + (gw s.W (x / 2).toNat).toNat) then
      (if 2000 < s.old + (4 + (gw s.W (x / 2).toNat).toNat) then ({ s with full := true }, x)
      else (mvTo s (x / 2).toNat s.old (s.old + (4 + (gw s.W (x / 2).toNat).toNat)) s.to, 2 * (s.old : Int) + 1))
    else (mvTo s (x / 2).toNat s.to s.old (s.to + (4 + (gw s.W (x / 2).toNat).toNat)), 2 * (s.to : Int) + 1))
  else (s, x)

def smallI (x : Int) : Prop := -4000000000000000000 ≤ x ∧ x ≤ 4000000000000000000

structure SI (h : Hp) (l : List Nat) (s : SV) : Prop where
  len : s.W.length = 3200
  wlen : s.went.length = 3200
  same : ∀ j, frm h j → gw s.W j = gw h.words j
  old0 : h.old.toNat ≤ s.old
  old1 : s.old ≤ 2000
  to0 : tb h ≤ s.to
  to1 : s.to ≤ tb h + 300
  wnt : ∀ a, s.went.getD a 0 ≤ 3200
  ar : ∀ d, d ∈ s.q → (0 ≤ gw s.W d ∧ gw s.W d ≤ 60) ∧ ((h.old.toNat ≤ d ∧ nx s.W d ≤ s.old) ∨ (tb h ≤ d ∧ nx s.W d ≤ s.to))
  dis : s.q.Pairwise fun d e => nx s.W d ≤ e ∨ nx s.W e ≤ d
  qlen : 4 * s.q.length + h.old.toNat + tb h ≤ s.old + s.to
  sm : ∀ j, smallI (gw s.W j)
  g0 : ∃ m, Goes s.W 0 s.old m ∧ (∀ a, a ∈ l → a < 2000 → a ∈ its s.W 0 m ∧ gw s.W a = gw h.words a) ∧ ∀ d, d ∈ s.q → d < 2000 → d ∈ its s.W 0 m
  g2 : ∃ m, Goes s.W (tb h) s.to m ∧ ∀ d, d ∈ s.q → 2000 ≤ d → d ∈ its s.W (tb h) m
  z0 : ∀ j, s.old ≤ j → j < 2000 → gw s.W j = 0
  z2 : ∀ j, s.to ≤ j → j < tb h + 300 → gw s.W j = 0

theorem tb_two (h : Hp) : (tb h = 2600 ∧ survB h.flip = 2900) ∨ (tb h = 2900 ∧ survB h.flip = 2600) := by
  unfold tb survB
  cases h.flip
  · right; exact ⟨rfl, rfl⟩
  · left; exact ⟨rfl, rfl⟩
theorem frm_not {h : Hp} {j : Nat} (k : frm h j) : 2000 ≤ j ∧ ¬ (tb h ≤ j ∧ j < tb h + 300) := by
  unfold frm at k
  rcases tb_two h with ⟨a, b⟩ | ⟨a, b⟩ <;> omega
theorem young_area {h : Hp} {l : List Nat} (R : RightAt h l) {a j : Nat} (ha : a ∈ l) (hy : 2000 ≤ a) (h1 : a ≤ j) (h2 : j < nx h.words a) : frm h j := by
  obtain ⟨_, r0, r1, r2, n0, n1, n2, g0, g1, g2, rfl⟩ := R.1
  rw [List.mem_append, List.mem_append] at ha
  unfold frm
  rcases ha with (ha | ha) | ha
  · have := goes_in g0 ha; omega
  · have := goes_in g1 ha; omega
  · have := goes_in g2 ha; omega
theorem old_area {h : Hp} {l : List Nat} (R : RightAt h l) {a : Nat} (ha : a ∈ l) (hy : a < 2000) : nx h.words a ≤ h.old.toNat := by
  obtain ⟨_, r0, r1, r2, n0, n1, n2, g0, g1, g2, rfl⟩ := R.1
  have hs : 2600 ≤ survB h.flip := by unfold survB; split <;> omega
  rw [List.mem_append, List.mem_append] at ha
  rcases ha with (ha | ha) | ha
  · have := goes_in g0 ha; omega
  · have := goes_in g1 ha; omega
  · have := goes_in g2 ha; omega

/-- A young word of a right heap is the address of an object in the part that is left. -/
theorem young_obj {h : Hp} {l : List Nat} (R : RightAt h l) {x : Int} (hf : fitB l x = true) (hy : youngS x = true) : ∃ a : Nat, a ∈ l ∧ x / 2 = a ∧ 2000 ≤ a ∧ a + 4 ≤ 3200 ∧ nx h.words a ≤ 3200 ∧ (0 ≤ gw h.words a ∧ gw h.words a ≤ 60) ∧ (0 ≤ gw h.words (a + 3) ∧ gw h.words (a + 3) ≤ 15) := by
  rw [young_eq (fit_kind hf)] at hy
  unfold youngB at hy
  rw [Bool.and_eq_true] at hy
  have k : kindW x = 2 := of_decide_eq_true hy.1
  rw [fit_ref (decide_eq_true k), List.contains_iff_mem] at hf
  obtain ⟨a, ha, e⟩ := List.mem_map.1 hf
  obtain ⟨o1, o2, o3⟩ := R.1.obj ha
  have y := of_decide_eq_true hy.2
  refine ⟨a, ha, e.symm, by omega, o1, o2, size_of o3, ?_⟩
  unfold headB at o3
  rw [Bool.and_eq_true, Bool.and_eq_true] at o3
  exact of_decide_eq_true o3.2.2

theorem mvW_len {W : List Int} {d a : Nat} (h : d + (4 + (gw W a).toNat) ≤ W.length) (_h2 : a + (4 + (gw W a).toNat) ≤ W.length) : (mvW W d a).length = W.length := by
  unfold mvW
  rw [List.length_set, length_splice _ _ _ (by rw [List.length_take, List.length_drop]; omega)]
theorem mvW_gw {W : List Int} {d a : Nat} (h : d + (4 + (gw W a).toNat) ≤ W.length) (h2 : a + (4 + (gw W a).toNat) ≤ W.length) (j : Nat) :
    gw (mvW W d a) j = if j = d + 3 then ageOf W a else if d ≤ j ∧ j < d + (4 + (gw W a).toNat) then gw W (a + (j - d)) else gw W j := by
  have ll : ((W.drop a).take (4 + (gw W a).toNat)).length = 4 + (gw W a).toNat := by rw [List.length_take, List.length_drop]; omega
  have hl : d + ((W.drop a).take (4 + (gw W a).toNat)).length ≤ W.length := by rw [ll]; exact h
  unfold mvW
  rw [gw_set _ _ _ _ (by rw [length_splice _ _ _ hl]; omega)]
  by_cases e : j = d + 3
  · rw [if_pos e, if_pos e]
  rw [if_neg e, if_neg e]
  show (splice W d _).getD j 0 = _
  rw [splice_get _ _ _ _ hl, ll]
  by_cases h1 : j < d
  · rw [if_pos h1, if_neg (by omega)]
    rfl
  rw [if_neg h1]
  by_cases h3 : j < d + (4 + (gw W a).toNat)
  · rw [if_pos h3, if_pos ⟨by omega, h3⟩]
    have hj : j - d < 4 + (gw W a).toNat := by omega
    show ((W.drop a).take (4 + (gw W a).toNat)).getD (j - d) 0 = W.getD (a + (j - d)) 0
    simp only [List.getD_eq_getElem?_getD]
    rw [List.getElem?_take_of_lt hj, List.getElem?_drop]
  · rw [if_neg h3, if_neg (by omega)]
    rfl

/-- What mv leaves as it was, and what it adds. -/
structure Mvd (h : Hp) (l : List Nat) (s s' : SV) : Prop where
  si : SI h l s'
  out : ∀ j, ¬ (s.old ≤ j ∧ j < 2000) → ¬ (s.to ≤ j ∧ j < tb h + 300) → gw s'.W j = gw s.W j
  old : s.old ≤ s'.old
  to : s.to ≤ s'.to
  q : s'.q = s.q ∨ ∃ d, s'.q = s.q ++ [d] ∧ ∀ k, d + 4 ≤ k → k < nx s'.W d → fitB l (gw s'.W k) = true
theorem Mvd.refl {h : Hp} {l : List Nat} {s : SV} (k : SI h l s) : Mvd h l s s := ⟨k, fun _ _ _ => rfl, Nat.le_refl _, Nat.le_refl _, .inl rfl⟩

theorem small_fit {l : List Nat} {x : Int} (h : fitB l x = true) : smallI x := by
  have k := fit_kind h
  have := half_le k
  unfold smallI
  by_cases e : x % 2 = 0
  · rw [kind_even e] at k
    split at k
    · rename_i ha
      have hx := of_decide_eq_true ha
      omega
    · exact absurd rfl k
  · rw [kind_odd e] at k
    split at k
    · rename_i ha
      have hx := of_decide_eq_true ha
      omega
    · exact absurd rfl k

theorem mvTo_keep {h : Hp} {l : List Nat} (R : RightAt h l) {s : SV} (S : SI h l s) {a : Nat} (ha : a ∈ l) (hy : 2000 ≤ a) (d old to : Nat)
    (hd : (d = s.old ∧ old = s.old + (4 + (gw s.W a).toNat) ∧ to = s.to ∧ old ≤ 2000) ∨ (d = s.to ∧ to = s.to + (4 + (gw s.W a).toNat) ∧ old = s.old ∧ to ≤ tb h + 300)) : Mvd h l s (mvTo s a d old to) ∧ d < 3200 := by
  obtain ⟨o1, o2, o3⟩ := R.1.obj ha
  have sz := size_of o3
  have sa : ∀ j, a ≤ j → j < nx h.words a → gw s.W j = gw h.words j := fun j h1 h2 => S.same j (young_area R ha hy h1 h2)
  have nxe : nx h.words a = a + 4 + (gw h.words a).toNat := rfl
  have e0 : gw s.W a = gw h.words a := sa a (Nat.le_refl _) (by omega)
  rw [e0] at hd
  have t3 := tb_two h
  have len := S.len
  have oo := S.old0
  have o0 := S.old1
  have t0 := S.to0
  have t1 := S.to1
  have h1 : d + (4 + (gw s.W a).toNat) ≤ s.W.length := by rw [e0, len]; omega
  have h2 : a + (4 + (gw s.W a).toNat) ≤ s.W.length := by rw [e0, len]; omega
  have G := mvW_gw h1 h2
  rw [e0] at G
  have ho : ∀ j, ¬ (s.old ≤ j ∧ j < 2000) → ¬ (s.to ≤ j ∧ j < tb h + 300) → gw (mvW s.W d a) j = gw s.W j := fun j n1 n2 => by
    rw [G, if_neg (by omega), if_neg (by omega)]
  have gd : gw (mvW s.W d a) d = gw h.words a := by
    rw [G, if_neg (by omega), if_pos (by omega), Nat.sub_self, Nat.add_zero, e0]
  have ag : 0 ≤ ageOf s.W a ∧ ageOf s.W a ≤ 15 := by
    unfold headB at o3
    rw [Bool.and_eq_true, Bool.and_eq_true] at o3
    have q := of_decide_eq_true o3.2.2
    unfold ageOf
    rw [sa (a + 3) (by omega) (by omega)]
    split <;> omega
  have hdB : headB (mvW s.W d a) d = true := by
    have o3' := o3
    unfold headB at o3' ⊢
    rw [Bool.and_eq_true, Bool.and_eq_true] at o3' ⊢
    have c1 : gw (mvW s.W d a) (d + 1) = gw h.words (a + 1) := by
      rw [G, if_neg (by omega), if_pos (by omega), show d + 1 - d = 1 from by omega]
      exact sa (a + 1) (by omega) (by omega)
    have c3 : gw (mvW s.W d a) (d + 3) = ageOf s.W a := by rw [G, if_pos rfl]
    rw [gd, c1, c3]
    exact ⟨o3'.1, o3'.2.1, decide_eq_true ag⟩
  have inq : ∀ e, e ∈ s.q → gw (mvW s.W d a) e = gw s.W e := fun e he => by
    have q := S.ar e he
    have : nx s.W e = e + 4 + (gw s.W e).toNat := rfl
    exact ho e (by omega) (by omega)
  have inx : ∀ e, e ∈ s.q → nx (mvW s.W d a) e = nx s.W e := fun e he => by unfold nx; rw [inq e he]
  have nd : nx (mvW s.W d a) d = d + 4 + (gw h.words a).toNat := by unfold nx; rw [gd]
  refine ⟨⟨⟨by show (mvW s.W d a).length = 3200; rw [mvW_len h1 h2, len], by show (s.went.set a (d + 1)).length = 3200; rw [List.length_set]; exact S.wlen, fun j hj => ?_, by show h.old.toNat ≤ old; omega, by show old ≤ 2000; omega, by show tb h ≤ to; omega, by show to ≤ tb h + 300; omega, fun b => ?_, fun e he => ?_, ?_, ?_, fun j => ?_, ?_, ?_, fun j j1 j2 => ?_, fun j j1 j2 => ?_⟩, ho, by show s.old ≤ old; omega, by show s.to ≤ to; omega, .inr ⟨d, rfl, fun k k1 k2 => ?_⟩⟩, by omega⟩
  · have q := frm_not hj
    show gw (mvW s.W d a) j = gw h.words j
    rw [ho j (by omega) (by omega)]
    exact S.same j hj
  · show (s.went.set a (d + 1)).getD b 0 ≤ 3200
    simp only [List.getD_eq_getElem?_getD, List.getElem?_set]
    by_cases e : a = b
    · subst e
      rw [if_pos rfl]
      split <;> simp <;> omega
    · rw [if_neg e]
      have := S.wnt b
      rw [List.getD_eq_getElem?_getD] at this
      exact this
  · have he' : e ∈ s.q ++ [d] := he
    rw [List.mem_append, List.mem_singleton] at he'
    show (0 ≤ gw (mvW s.W d a) e ∧ gw (mvW s.W d a) e ≤ 60) ∧ ((h.old.toNat ≤ e ∧ nx (mvW s.W d a) e ≤ old) ∨ (tb h ≤ e ∧ nx (mvW s.W d a) e ≤ to))
    rcases he' with he' | rfl
    · rw [inq e he', inx e he']
      have q := S.ar e he'
      refine ⟨q.1, ?_⟩
      omega
    · rw [gd, nd]
      refine ⟨sz, ?_⟩
      omega
  · show (s.q ++ [d]).Pairwise fun d1 e1 => nx (mvW s.W d a) d1 ≤ e1 ∨ nx (mvW s.W d a) e1 ≤ d1
    rw [List.pairwise_append]
    refine ⟨List.Pairwise.imp_of_mem (fun {x y} hx hy' q => ?_) S.dis, List.pairwise_singleton _ _, fun x hx y hy' => ?_⟩
    · rw [inx x hx, inx y hy']
      exact q
    · rw [List.mem_singleton] at hy'
      subst hy'
      rw [inx x hx, nd]
      have q := S.ar x hx
      have : nx s.W x = x + 4 + (gw s.W x).toNat := rfl
      omega
  · show 4 * (s.q ++ [d]).length + h.old.toNat + tb h ≤ old + to
    rw [List.length_append, List.length_singleton]
    have := S.qlen
    omega
  · show smallI (gw (mvW s.W d a) j)
    rw [G]
    split
    · unfold smallI; omega
    split
    · exact S.sm _
    · exact S.sm _
  · obtain ⟨m, g, q1, q2⟩ := S.g0
    have low : ∀ b, b ∈ its s.W 0 m → ∀ k, k < 4 → gw (mvW s.W d a) (b + k) = gw s.W (b + k) := fun b hb k hk => by
      have := goes_in g hb
      exact ho _ (by omega) (by omega)
    obtain ⟨g', e'⟩ := goes_same g low
    have l0 : ∀ b, b ∈ its s.W 0 m → b < s.old := fun b hb => by have := goes_in g hb; omega
    rcases hd with ⟨rfl, rfl, rfl, hd⟩ | ⟨rfl, rfl, rfl, hd⟩
    · refine ⟨m + 1, ⟨?_, fun i hi => ?_⟩, fun b hb b2 => ?_, fun e he e2 => ?_⟩
      · show nx (mvW s.W s.old a) (it (mvW s.W s.old a) 0 m) = s.old + (4 + (gw h.words a).toNat)
        rw [g'.1, nd]
        omega
      · rcases Nat.lt_or_ge i m with k | k
        · exact g'.2 i k
        · obtain rfl : i = m := by omega
          show headB (mvW s.W s.old a) (it (mvW s.W s.old a) 0 i) = true
          rw [g'.1]
          exact hdB
      · show b ∈ its (mvW s.W s.old a) 0 (m + 1) ∧ gw (mvW s.W s.old a) b = gw h.words b
        rw [its_succ, e', List.mem_append]
        exact ⟨.inl (q1 b hb b2).1, by rw [show gw (mvW s.W s.old a) b = gw s.W b from low b (q1 b hb b2).1 0 (by omega)]; exact (q1 b hb b2).2⟩
      · show e ∈ its (mvW s.W s.old a) 0 (m + 1)
        have he' : e ∈ s.q ++ [s.old] := he
        rw [its_succ, e', g'.1]
        rw [List.mem_append, List.mem_singleton] at he' ⊢
        exact he'.imp (fun q => q2 e q e2) id
    · refine ⟨m, g', fun b hb b2 => ?_, fun e he e2 => ?_⟩
      · show b ∈ its (mvW s.W s.to a) 0 m ∧ gw (mvW s.W s.to a) b = gw h.words b
        rw [e']
        exact ⟨(q1 b hb b2).1, by rw [show gw (mvW s.W s.to a) b = gw s.W b from low b (q1 b hb b2).1 0 (by omega)]; exact (q1 b hb b2).2⟩
      · show e ∈ its (mvW s.W s.to a) 0 m
        have he' : e ∈ s.q ++ [s.to] := he
        rw [List.mem_append, List.mem_singleton] at he'
        rw [e']
        rcases he' with q | q
        · exact q2 e q e2
        · omega
  · obtain ⟨m, g, q2⟩ := S.g2
    have low : ∀ b, b ∈ its s.W (tb h) m → ∀ k, k < 4 → gw (mvW s.W d a) (b + k) = gw s.W (b + k) := fun b hb k hk => by
      have := goes_in g hb
      exact ho _ (by omega) (by omega)
    obtain ⟨g', e'⟩ := goes_same g low
    rcases hd with ⟨rfl, rfl, rfl, hd⟩ | ⟨rfl, rfl, rfl, hd⟩
    · refine ⟨m, g', fun e he e2 => ?_⟩
      show e ∈ its (mvW s.W s.old a) (tb h) m
      have he' : e ∈ s.q ++ [s.old] := he
      rw [List.mem_append, List.mem_singleton] at he'
      rw [e']
      rcases he' with q | q
      · exact q2 e q e2
      · omega
    · refine ⟨m + 1, ⟨?_, fun i hi => ?_⟩, fun e he e2 => ?_⟩
      · show nx (mvW s.W s.to a) (it (mvW s.W s.to a) (tb h) m) = s.to + (4 + (gw h.words a).toNat)
        rw [g'.1, nd]
        omega
      · rcases Nat.lt_or_ge i m with k | k
        · exact g'.2 i k
        · obtain rfl : i = m := by omega
          show headB (mvW s.W s.to a) (it (mvW s.W s.to a) (tb h) i) = true
          rw [g'.1]
          exact hdB
      · show e ∈ its (mvW s.W s.to a) (tb h) (m + 1)
        have he' : e ∈ s.q ++ [s.to] := he
        rw [its_succ, e', g'.1]
        rw [List.mem_append, List.mem_singleton] at he' ⊢
        exact he'.imp (fun q => q2 e q e2) id
  · have j1' : old ≤ j := j1
    show gw (mvW s.W d a) j = 0
    rw [G, if_neg (by omega), if_neg (by omega)]
    exact S.z0 j (by omega) j2
  · have j1' : to ≤ j := j1
    show gw (mvW s.W d a) j = 0
    rw [G, if_neg (by omega), if_neg (by omega)]
    exact S.z2 j (by omega) j2
  · have k2' : k < nx (mvW s.W d a) d := k2
    rw [nd] at k2'
    show fitB l (gw (mvW s.W d a) k) = true
    rw [G, if_neg (by omega), if_pos (by omega), sa _ (by omega) (by omega)]
    exact R.2.2.2.2.2.2.2.1 a ha _ (by omega) (by omega)

/-- A word that fits is moved. -/
theorem mv_keep {h : Hp} {l : List Nat} (R : RightAt h l) {s : SV} (S : SI h l s) {x : Int} (hf : fitB l x = true) : Mvd h l s (mv (tb h + 300) s x).1 ∧ smallI (mv (tb h + 300) s x).2 := by
  unfold mv
  by_cases hy : (youngS x && !s.full) = true
  · rw [if_pos hy]
    rw [Bool.and_eq_true] at hy
    obtain ⟨a, ha, ea, y2, o1, o2, sz, ag⟩ := young_obj R hf hy.1
    rw [ea, Int.toNat_natCast]
    by_cases hw : 0 < s.went.getD a 0
    · rw [if_pos hw]
      have := S.wnt a
      exact ⟨Mvd.refl S, by unfold smallI; omega⟩
    rw [if_neg hw]
    by_cases hg : 3 ≤ ageOf s.W a ∨ tb h + 300 < s.to + (4 + (gw s.W a).toNat)
    · rw [if_pos hg]
      by_cases hfl : 2000 < s.old + (4 + (gw s.W a).toNat)
      · rw [if_pos hfl]
        exact ⟨⟨⟨S.len, S.wlen, S.same, S.old0, S.old1, S.to0, S.to1, S.wnt, S.ar, S.dis, S.qlen, S.sm, S.g0, S.g2, S.z0, S.z2⟩, fun _ _ _ => rfl, Nat.le_refl _, Nat.le_refl _, .inl rfl⟩, small_fit hf⟩
      · rw [if_neg hfl]
        have q := mvTo_keep R S ha y2 s.old (s.old + (4 + (gw s.W a).toNat)) s.to (.inl ⟨rfl, rfl, rfl, by omega⟩)
        exact ⟨q.1, by unfold smallI; omega⟩
    · rw [if_neg hg]
      have q := mvTo_keep R S ha y2 s.to s.old (s.to + (4 + (gw s.W a).toNat)) (.inr ⟨rfl, rfl, rfl, by omega⟩)
      exact ⟨q.1, by unfold smallI; omega⟩
  · rw [if_neg hy]
    exact ⟨Mvd.refl S, small_fit hf⟩

/-- A field is set: of an old object that was, or of one that was moved. -/
theorem set_keep {h : Hp} {l : List Nat} (R : RightAt h l) {s : SV} (S : SI h l s) {f : Nat} {y : Int} (hf0 : (∃ a, a ∈ l ∧ a < 2000 ∧ a + 4 ≤ f ∧ f < nx h.words a) ∨ ∃ d, d ∈ s.q ∧ d + 4 ≤ f ∧ f < nx s.W d) (hy : smallI y) :
    SI h l { s with W := s.W.set f y } ∧ (∀ j, gw (s.W.set f y) j = if j = f then y else gw s.W j) ∧ ∀ d, d ∈ s.q → nx (s.W.set f y) d = nx s.W d := by
  have t3 := tb_two h
  have oo := S.old1
  have t1 := S.to1
  have t0 := S.to0
  have o0 := S.old0
  have hf : f < h.old.toNat ∨ ∃ d, d ∈ s.q ∧ d + 4 ≤ f ∧ f < nx s.W d := by
    rcases hf0 with ⟨a, ha, a2, f1, f2⟩ | q
    · have := old_area R ha a2
      exact .inl (by omega)
    · exact .inr q
  have own0 : ∀ m, Goes s.W 0 s.old m → (∀ a, a ∈ l → a < 2000 → a ∈ its s.W 0 m ∧ gw s.W a = gw h.words a) → (∀ d, d ∈ s.q → d < 2000 → d ∈ its s.W 0 m) → ∀ b, b ∈ its s.W 0 m → ∀ k, k < 4 → b + k ≠ f := fun m g q1 q2 b hb k hk e => by
    have gb := goes_in g hb
    obtain ⟨p, hp, p1, p2⟩ : ∃ p, p ∈ its s.W 0 m ∧ p + 4 ≤ f ∧ f < nx s.W p := by
      rcases hf0 with ⟨a, ha, a2, f1, f2⟩ | ⟨d, hd, f1, f2⟩
      · have q := q1 a ha a2
        refine ⟨a, q.1, f1, ?_⟩
        unfold nx at f2 ⊢
        rw [q.2]
        exact f2
      · have ar := S.ar d hd
        exact ⟨d, q2 d hd (by omega), f1, f2⟩
    rcases Nat.lt_trichotomy b p with c | c | c
    · have := its_apart hb hp c; omega
    · omega
    · have := its_apart hp hb c; omega
  have own2 : ∀ m, Goes s.W (tb h) s.to m → (∀ d, d ∈ s.q → 2000 ≤ d → d ∈ its s.W (tb h) m) → ∀ b, b ∈ its s.W (tb h) m → ∀ k, k < 4 → b + k ≠ f := fun m g q2 b hb k hk e => by
    have gb := goes_in g hb
    clear hf own0
    rcases hf0 with ⟨a, ha, a2, f1, f2⟩ | ⟨d, hd, f1, f2⟩
    · have := old_area R ha a2
      omega
    · have ar := S.ar d hd
      have hp := q2 d hd (by omega)
      rcases Nat.lt_trichotomy b d with c | c | c
      · have := its_apart hb hp c; omega
      · omega
      · have := its_apart hp hb c; omega
  have lowf : f < s.old ∨ (tb h ≤ f ∧ f < s.to) := by
    rcases hf with q | ⟨d, hd, f1, f2⟩
    · exact .inl (by omega)
    · have := S.ar d hd
      omega
  have fl : f < 3200 ∧ ¬ frm h f ∧ ∀ d, d ∈ s.q → d ≠ f := by
    rcases hf with hf | ⟨d, hd, f1, f2⟩
    · refine ⟨by omega, fun q => by have := frm_not q; omega, fun d hd e => ?_⟩
      have := S.ar d hd
      omega
    · have q := S.ar d hd
      refine ⟨by omega, fun q => by have := frm_not q; omega, fun e he ee => ?_⟩
      subst ee
      rcases Nat.lt_trichotomy d e with k | k | k
      · have dd := S.dis
        have hne : d ≠ e := by omega
        have : nx s.W d ≤ e ∨ nx s.W e ≤ d := by
          obtain ⟨i, hi, ei⟩ := List.getElem_of_mem hd
          obtain ⟨j, hj, ej⟩ := List.getElem_of_mem he
          have P := List.pairwise_iff_getElem.1 dd
          rcases Nat.lt_trichotomy i j with a | a | a
          · have := P i j hi hj a
            rw [ei, ej] at this
            exact this
          · subst a
            exact absurd (ei.symm.trans ej) hne
          · have := P j i hj hi a
            rw [ei, ej] at this
            exact this.symm
        have : nx s.W e = e + 4 + (gw s.W e).toNat := rfl
        omega
      · omega
      · omega
  have G : ∀ j, gw (s.W.set f y) j = if j = f then y else gw s.W j := fun j => gw_set _ _ _ _ (by rw [S.len]; exact fl.1)
  have Q : ∀ d, d ∈ s.q → gw (s.W.set f y) d = gw s.W d := fun d hd => by rw [G, if_neg (fl.2.2 d hd)]
  have N : ∀ d, d ∈ s.q → nx (s.W.set f y) d = nx s.W d := fun d hd => by unfold nx; rw [Q d hd]
  refine ⟨⟨by show (s.W.set f y).length = 3200; rw [List.length_set]; exact S.len, S.wlen, fun j hj => ?_, S.old0, S.old1, S.to0, S.to1, S.wnt, fun d hd => ?_, ?_, S.qlen, fun j => ?_, ?_, ?_, fun j j1 j2 => ?_, fun j j1 j2 => ?_⟩, G, N⟩
  · show gw (s.W.set f y) j = _
    rw [G, if_neg (by rintro rfl; exact fl.2.1 hj)]
    exact S.same j hj
  · show (0 ≤ gw (s.W.set f y) d ∧ gw (s.W.set f y) d ≤ 60) ∧ ((h.old.toNat ≤ d ∧ nx (s.W.set f y) d ≤ s.old) ∨ (tb h ≤ d ∧ nx (s.W.set f y) d ≤ s.to))
    rw [Q d hd, N d hd]
    exact S.ar d hd
  · show s.q.Pairwise fun d e => nx (s.W.set f y) d ≤ e ∨ nx (s.W.set f y) e ≤ d
    refine List.Pairwise.imp_of_mem (fun {a b} ha hb q => ?_) S.dis
    rw [N a ha, N b hb]
    exact q
  · show smallI (gw (s.W.set f y) j)
    rw [G]
    split
    · exact hy
    · exact S.sm j
  · obtain ⟨m, g, q1, q2⟩ := S.g0
    obtain ⟨g', e'⟩ := goes_same (V := s.W.set f y) g (fun b hb k hk => by rw [G, if_neg (own0 m g q1 q2 b hb k hk)])
    refine ⟨m, g', fun a ha a2 => ?_, fun d hd d2 => ?_⟩
    · show a ∈ its (s.W.set f y) 0 m ∧ gw (s.W.set f y) a = gw h.words a
      have q := q1 a ha a2
      rw [e', G, if_neg (show ¬ a = f from own0 m g q1 q2 a q.1 0 (by omega))]
      exact q
    · show d ∈ its (s.W.set f y) 0 m
      rw [e']
      exact q2 d hd d2
  · obtain ⟨m, g, q2⟩ := S.g2
    obtain ⟨g', e'⟩ := goes_same (V := s.W.set f y) g (fun b hb k hk => by rw [G, if_neg (own2 m g q2 b hb k hk)])
    refine ⟨m, g', fun d hd d2 => ?_⟩
    show d ∈ its (s.W.set f y) (tb h) m
    rw [e']
    exact q2 d hd d2
  · have j1' : s.old ≤ j := j1
    show gw (s.W.set f y) j = 0
    rw [G, if_neg (by omega)]
    exact S.z0 j j1' j2
  · have j1' : s.to ≤ j := j1
    show gw (s.W.set f y) j = 0
    rw [G, if_neg (by omega)]
    exact S.z2 j j1' j2

end Go.Proofs.YtklafifiphbibaaGreat

/- The scavenger's loops in plain words. -/
namespace Go.Proofs.YtklafifiphbibaaGreat
open Go.RowKit

/-- All that was moved has fields that fit the heap of before. -/
def QA (l : List Nat) (s : SV) : Prop := ∀ d, d ∈ s.q → ∀ k, d + 4 ≤ k → k < nx s.W d → fitB l (gw s.W k) = true
/-- The same from the i-th on, of the i-th one from f on. -/
def QC (l : List Nat) (s : SV) (i f : Nat) : Prop := ∀ j, i ≤ j → j < s.q.length → ∀ k, s.q.getD j 0 + 4 ≤ k → (j = i → f ≤ k) → k < nx s.W (s.q.getD j 0) → fitB l (gw s.W k) = true
def lowAs (h : Hp) (s : SV) (f : Nat) : Prop := ∀ j, f ≤ j → j < h.old.toNat → gw s.W j = gw h.words j

theorem getD_mem {q : List Nat} {i : Nat} (h : i < q.length) : q.getD i 0 ∈ q := by simp [h]

theorem Mvd.in {h : Hp} {l : List Nat} {s s' : SV} (S : SI h l s) (M : Mvd h l s s') {d : Nat} (hd : d ∈ s.q) {k : Nat} (h1 : d ≤ k) (h2 : k < nx s.W d) : gw s'.W k = gw s.W k := by
  have q := S.ar d hd
  have t3 := tb_two h
  have := S.old1
  have := S.to1
  have := S.to0
  refine M.out k ?_ ?_ <;> omega
theorem Mvd.nxe {h : Hp} {l : List Nat} {s s' : SV} (S : SI h l s) (M : Mvd h l s s') {d : Nat} (hd : d ∈ s.q) : nx s'.W d = nx s.W d := by
  have e : nx s.W d = d + 4 + (gw s.W d).toNat := rfl
  unfold nx
  rw [M.in S hd (Nat.le_refl _) (by omega)]
theorem Mvd.low {h : Hp} {l : List Nat} {s s' : SV} (S : SI h l s) (M : Mvd h l s s') {f : Nat} (L : lowAs h s f) : lowAs h s' f := fun j h1 h2 => by
  have := S.old0
  have := S.to0
  have t3 := tb_two h
  have o0 : s.old ≤ 2000 := S.old1
  rw [M.out j (by omega) (by omega)]
  exact L j h1 h2
theorem Mvd.len {h : Hp} {l : List Nat} {s s' : SV} (M : Mvd h l s s') : s.q.length ≤ s'.q.length ∧ ∀ j, j < s.q.length → s'.q.getD j 0 = s.q.getD j 0 := by
  rcases M.q with e | ⟨d, e, _⟩
  · rw [e]
    exact ⟨Nat.le_refl _, fun _ _ => rfl⟩
  · rw [e]
    refine ⟨by simp, fun j hj => ?_⟩
    simp only [List.getD_eq_getElem?_getD]
    rw [List.getElem?_append_left hj]
theorem Mvd.qa {h : Hp} {l : List Nat} {s s' : SV} (S : SI h l s) (M : Mvd h l s s') (A : QA l s) : QA l s' := by
  intro d hd k k1 k2
  have old : d ∈ s.q → fitB l (gw s'.W k) = true := fun hd => by
    rw [M.nxe S hd] at k2
    rw [M.in S hd (by omega) k2]
    exact A d hd k k1 k2
  rcases M.q with e | ⟨d', e, F⟩
  · rw [e] at hd
    exact old hd
  · rw [e, List.mem_append, List.mem_singleton] at hd
    rcases hd with hd | rfl
    · exact old hd
    · exact F k k1 k2
theorem Mvd.qc {h : Hp} {l : List Nat} {s s' : SV} (S : SI h l s) (M : Mvd h l s s') {i f : Nat} (A : QC l s i f) : QC l s' i f := by
  intro j ij jl k k1 kf k2
  by_cases hj : j < s.q.length
  · rw [M.len.2 j hj] at k1 k2
    have hd := getD_mem hj
    rw [M.nxe S hd] at k2
    rw [M.in S hd (by omega) k2]
    exact A j ij hj k k1 kf k2
  · rcases M.q with e | ⟨d', e, F⟩
    · rw [e] at jl
      exact absurd jl hj
    · have jj : j = s.q.length := by
        rw [e] at jl
        simp at jl
        omega
      have ed : s'.q.getD j 0 = d' := by
        rw [e, jj]
        simp
      rw [ed] at k1 k2
      exact F k k1 k2

/-- One field: it is moved, and set. -/
def fd1 (lim : Nat) (t : SV) (f : Nat) : SV := { (mv lim t (gw t.W f)).1 with W := (mv lim t (gw t.W f)).1.W.set f (mv lim t (gw t.W f)).2 }
def fdS (lim : Nat) (s : SV) (f : Nat) : Nat → SV
  | 0 => s
  | k + 1 => fd1 lim (fdS lim s f k) (f + k)

theorem fd_low {h : Hp} {l : List Nat} (R : RightAt h l) {s : SV} (S : SI h l s) {f : Nat} {a : Nat} (ha : a ∈ l) (a2 : a < 2000) (f1 : a + 4 ≤ f) (f2 : f < nx h.words a) (L : lowAs h s f) (A : QA l s) :
    SI h l (fd1 (tb h + 300) s f) ∧ lowAs h (fd1 (tb h + 300) s f) (f + 1) ∧ QA l (fd1 (tb h + 300) s f) := by
  have ff := R.2.2.2.2.2.2.2.1 a ha f f1 f2
  have hf : f < h.old.toNat := by have := old_area R ha a2; omega
  have e := L f (Nat.le_refl _) hf
  have m := mv_keep R S (x := gw s.W f) (by rw [e]; exact ff)
  have ss := set_keep R m.1.si (f := f) (y := (mv (tb h + 300) s (gw s.W f)).2) (.inl ⟨a, ha, a2, f1, f2⟩) m.2
  have L1 := m.1.low S L
  have A1 := m.1.qa S A
  refine ⟨ss.1, fun j h1 h2 => ?_, fun d hd k k1 k2 => ?_⟩
  · show gw ((mv (tb h + 300) s (gw s.W f)).1.W.set f (mv (tb h + 300) s (gw s.W f)).2) j = _
    rw [ss.2.1, if_neg (by omega)]
    exact L1 j (by omega) h2
  · have hd' : d ∈ (mv (tb h + 300) s (gw s.W f)).1.q := hd
    have k2' : k < nx ((mv (tb h + 300) s (gw s.W f)).1.W.set f (mv (tb h + 300) s (gw s.W f)).2) d := k2
    rw [ss.2.2 d hd'] at k2'
    show fitB l (gw ((mv (tb h + 300) s (gw s.W f)).1.W.set f (mv (tb h + 300) s (gw s.W f)).2) k) = true
    have := m.1.si.ar d hd'
    have t3 := tb_two h
    have ho : h.old.toNat ≤ 2000 := by have := S.old0; have := S.old1; omega
    rw [ss.2.1, if_neg (by omega)]
    exact A1 d hd' k k1 k2'

/-- Does an address lie in what is left? -/
def frB (h : Hp) (a : Int) : Bool := decide (2000 ≤ a ∧ a < 2600) || decide ((survB h.flip : Int) ≤ a ∧ a < (survB h.flip : Int) + 300)
def qd1 (h : Hp) (t : SV) (f : Nat) : SV := if (!decide (gw t.W f % 2 = 0) && frB h (gw t.W f / 2)) = true then fd1 (tb h + 300) t f else t
def qdS (h : Hp) (s : SV) (f : Nat) : Nat → SV
  | 0 => s
  | k + 1 => qd1 h (qdS h s f k) (f + k)

theorem qd_keep {h : Hp} {l : List Nat} (R : RightAt h l) {s : SV} (S : SI h l s) {i f : Nat} (hi : i < s.q.length) (h1 : s.q.getD i 0 + 4 ≤ f) (h2 : f < nx s.W (s.q.getD i 0)) (C : QC l s i f) :
    SI h l (qd1 h s f) ∧ QC l (qd1 h s f) i (f + 1) ∧ s.q.length ≤ (qd1 h s f).q.length ∧ (qd1 h s f).q.getD i 0 = s.q.getD i 0 ∧ nx (qd1 h s f).W (s.q.getD i 0) = nx s.W (s.q.getD i 0) := by
  have ff := C i (Nat.le_refl _) hi f h1 (fun _ => Nat.le_refl _) h2
  unfold qd1
  by_cases g : (!decide (gw s.W f % 2 = 0) && frB h (gw s.W f / 2)) = true
  · rw [if_pos g]
    have m := mv_keep R S (x := gw s.W f) ff
    have hd := getD_mem hi
    have len := m.1.len
    have hd1 : s.q.getD i 0 ∈ (mv (tb h + 300) s (gw s.W f)).1.q := by
      rw [← len.2 i hi]
      exact getD_mem (by omega)
    have n1 := m.1.nxe S hd
    have ss := set_keep R m.1.si (f := f) (y := (mv (tb h + 300) s (gw s.W f)).2) (.inr ⟨_, hd1, h1, by rw [n1]; exact h2⟩) m.2
    have C1 := m.1.qc S C
    refine ⟨ss.1, fun j ij jl k k1 kf k2 => ?_, len.1, len.2 i hi, ?_⟩
    · have jl' : j < (mv (tb h + 300) s (gw s.W f)).1.q.length := jl
      have hj := getD_mem jl'
      have k2' : k < nx ((mv (tb h + 300) s (gw s.W f)).1.W.set f (mv (tb h + 300) s (gw s.W f)).2) ((mv (tb h + 300) s (gw s.W f)).1.q.getD j 0) := k2
      rw [ss.2.2 _ hj] at k2'
      have k1' : (mv (tb h + 300) s (gw s.W f)).1.q.getD j 0 + 4 ≤ k := k1
      show fitB l (gw ((mv (tb h + 300) s (gw s.W f)).1.W.set f (mv (tb h + 300) s (gw s.W f)).2) k) = true
      have ne : k ≠ f := by
        intro e
        subst e
        by_cases ji : j = i
        · have := kf ji
          omega
        · have P := List.pairwise_iff_getElem.1 m.1.si.dis i j (by omega) jl' (by omega)
          have ei : (mv (tb h + 300) s (gw s.W k)).1.q[i]'(by omega) = s.q.getD i 0 := by
            rw [← len.2 i hi]
            simp [List.getD_eq_getElem?_getD, show i < (mv (tb h + 300) s (gw s.W k)).1.q.length from by omega]
          have ej : (mv (tb h + 300) s (gw s.W k)).1.q[j]'jl' = (mv (tb h + 300) s (gw s.W k)).1.q.getD j 0 := by
            simp [List.getD_eq_getElem?_getD, jl']
          rw [ei, ej, n1] at P
          omega
      rw [ss.2.1, if_neg ne]
      exact C1 j ij jl' k k1' (fun e => by have := kf e; omega) k2'
    · show nx ((mv (tb h + 300) s (gw s.W f)).1.W.set f (mv (tb h + 300) s (gw s.W f)).2) _ = _
      rw [ss.2.2 _ hd1, n1]
  · rw [if_neg g]
    exact ⟨S, fun j ij jl k k1 kf k2 => C j ij jl k k1 (fun e => by have := kf e; omega) k2, Nat.le_refl _, rfl, rfl⟩

end Go.Proofs.YtklafifiphbibaaGreat

/- The scavenger in plain words: the beginning, the loops' states. -/
namespace Go.Proofs.YtklafifiphbibaaGreat
open Go.RowKit

theorem goes_cover {W : List Int} {f : Nat} : ∀ {n t : Nat}, Goes W f t n → ∀ j, f ≤ j → j < t → ∃ a, a ∈ its W f n ∧ a ≤ j ∧ j < nx W a
  | 0, t, g, j, h1, h2 => by
    have := g.1
    have e : it W f 0 = f := rfl
    omega
  | n + 1, t, g, j, h1, h2 => by
    have e : it W f (n + 1) = nx W (it W f n) := rfl
    rcases Nat.lt_or_ge j (it W f n) with k | k
    · obtain ⟨a, ha, p, q⟩ := goes_cover (n := n) (t := it W f n) ⟨rfl, fun i hi => g.2 i (by omega)⟩ j h1 k
      obtain ⟨i, hi, e⟩ := mem_its.1 ha
      exact ⟨a, mem_its.2 ⟨i, by omega, e⟩, p, q⟩
    · refine ⟨it W f n, mem_its.2 ⟨n, by omega, rfl⟩, k, ?_⟩
      have := g.1
      omega
theorem parts_cover {h : Hp} {l : List Nat} (P : PartsAt h l) {j : Nat} (hj : inUse h j) : ∃ a, a ∈ l ∧ a ≤ j ∧ j < nx h.words a := by
  obtain ⟨_, r0, r1, r2, n0, n1, n2, g0, g1, g2, rfl⟩ := P
  rcases hj with k | k | k
  · obtain ⟨a, ha, p, q⟩ := goes_cover g0 j (Nat.zero_le _) (by omega)
    exact ⟨a, by simp [ha], p, q⟩
  · obtain ⟨a, ha, p, q⟩ := goes_cover g1 j k.1 (by omega)
    exact ⟨a, by simp [ha], p, q⟩
  · obtain ⟨a, ha, p, q⟩ := goes_cover g2 j k.1 (by omega)
    exact ⟨a, by simp [ha], p, q⟩
theorem words_small {h : Hp} {l : List Nat} (R : RightAt h l) (j : Nat) : smallI (gw h.words j) := by
  by_cases hj : inUse h j
  · obtain ⟨a, ha, p, q⟩ := parts_cover R.1 hj
    obtain ⟨o1, o2, o3⟩ := R.1.obj ha
    by_cases k : a + 4 ≤ j
    · exact small_fit (R.2.2.2.2.2.2.2.1 a ha j k q)
    · have h1 := R.2.2.2.1 a ha
      have h2 := R.2.2.2.2.1.1 a ha
      have h3 := R.2.2.1
      unfold headB at o3
      rw [Bool.and_eq_true, Bool.and_eq_true] at o3
      have e0 := of_decide_eq_true o3.1
      have e1 := of_decide_eq_true o3.2.1
      have e3 := of_decide_eq_true o3.2.2
      have : j = a ∨ j = a + 1 ∨ j = a + 2 ∨ j = a + 3 := by omega
      unfold smallI
      rcases this with rfl | rfl | rfl | rfl <;> omega
  · have e : gw h.words j = 0 := by
      by_cases k : j < 3200
      · exact R.2.1 j k hj
      · unfold gw
        have := R.1.1
        simp [List.getD_eq_getElem?_getD, show h.words[j]? = none from List.getElem?_eq_none (by omega)]
    rw [e]
    unfold smallI
    omega

def went0 : List Nat := List.replicate 3200 0
theorem went0_len : went0.length = 3200 := List.length_replicate
theorem went0_get (a : Nat) : went0.getD a 0 = 0 := by
  unfold went0
  rw [List.getD_eq_getElem?_getD, List.getElem?_replicate]
  split <;> rfl
def sv0 (h : Hp) : SV := ⟨h.words, h.old.toNat, tb h, went0, [], false⟩
theorem sv0_si {h : Hp} {l : List Nat} (R : RightAt h l) : SI h l (sv0 h) ∧ lowAs h (sv0 h) 0 ∧ QA l (sv0 h) := by
  have o := R.1.2.1
  refine ⟨⟨R.1.1, went0_len, fun _ _ => rfl, Nat.le_refl _, by show h.old.toNat ≤ 2000; omega, Nat.le_refl _, by show tb h ≤ _; omega, fun a => ?_, fun d hd => absurd hd List.not_mem_nil, List.Pairwise.nil, by show 4 * 0 + h.old.toNat + tb h ≤ h.old.toNat + tb h; omega, words_small R, ?_, ⟨0, ⟨rfl, fun i hi => absurd hi (Nat.not_lt_zero i)⟩, fun d hd => absurd hd List.not_mem_nil⟩, fun j j1 j2 => ?_, fun j j1 j2 => ?_⟩, fun _ _ _ => rfl, fun d hd => absurd hd List.not_mem_nil⟩
  · show went0.getD a 0 ≤ 3200
    rw [went0_get]
    omega
  · obtain ⟨_, r0, r1, r2, n0, n1, n2, g0, g1, g2, e⟩ := R.1
    have hs : 2600 ≤ survB h.flip := by unfold survB; split <;> omega
    refine ⟨n0, g0, fun a ha a2 => ⟨?_, rfl⟩, fun d hd => absurd hd List.not_mem_nil⟩
    rw [e, List.mem_append, List.mem_append] at ha
    rcases ha with (ha | ha) | ha
    · exact ha
    · have := goes_in g1 ha; omega
    · have := goes_in g2 ha; omega
  · refine R.2.1 j (by omega) ?_
    have hs : 2600 ≤ survB h.flip := by unfold survB; split <;> omega
    have j1' : h.old.toNat ≤ j := j1
    unfold inUse
    omega
  · have t3 := tb_two h
    have j1' : tb h ≤ j := j1
    have r1 := R.1.2.2.1
    have r2 := R.1.2.2.2.1
    refine R.2.1 j (by omega) ?_
    unfold inUse
    omega

/-- The roots: behind i of them. -/
def rtS (h : Hp) : Nat → SV
  | 0 => sv0 h
  | i + 1 => (mv (tb h + 300) (rtS h i) (h.roots.getD i 0)).1
def rtY (h : Hp) (i : Nat) : Int := (mv (tb h + 300) (rtS h i) (h.roots.getD i 0)).2
def rtL (h : Hp) (i : Nat) : List Int := (List.range i).map (rtY h) ++ h.roots.drop i
theorem rtL_len (h : Hp) {i : Nat} (hi : i ≤ h.roots.length) : (rtL h i).length = h.roots.length := by simp [rtL]; omega
theorem rtL_set (h : Hp) {i : Nat} (hi : i < h.roots.length) : (rtL h i).set i (rtY h i) = rtL h (i + 1) := by
  unfold rtL
  rw [List.set_append_right _ _ (by simp), List.length_map, List.length_range, Nat.sub_self, List.drop_eq_getElem_cons hi, List.set_cons_zero, List.range_succ, List.map_append]
  simp
def PA (h : Hp) (l : List Nat) (s : SV) (f : Nat) : Prop := SI h l s ∧ lowAs h s f ∧ QA l s
theorem rt_step {h : Hp} {l : List Nat} (R : RightAt h l) {i : Nat} (hi : i < h.roots.length) (P : PA h l (rtS h i) 0) : PA h l (rtS h (i + 1)) 0 ∧ smallI (rtY h i) := by
  have m := mv_keep R P.1 (x := h.roots.getD i 0) (R.2.2.2.2.2.2.1 _ (by simp [hi]))
  exact ⟨⟨m.1.si, m.1.low P.1 P.2.1, m.1.qa P.1 P.2.2⟩, m.2⟩

/-- The fields of an old object in Kept: behind j of them. -/
theorem fd_step {h : Hp} {l : List Nat} (R : RightAt h l) {a : Nat} (ha : a ∈ l) (hy : a < 2000) {s : SV} {j : Nat} (hj : (j : Int) < gw h.words a) (P : PA h l (fdS (tb h + 300) s (a + 4) j) (a + 4 + j)) : PA h l (fdS (tb h + 300) s (a + 4) (j + 1)) (a + 4 + (j + 1)) ∧ smallI (mv (tb h + 300) (fdS (tb h + 300) s (a + 4) j) (gw (fdS (tb h + 300) s (a + 4) j).W (a + 4 + j))).2 := by
  have o := old_area R ha hy
  have lt := put_lt R ha hj
  have ff := R.2.2.2.2.2.2.2.1 a ha (a + 4 + j) (by omega) lt.1
  have q := fd_low R P.1 (f := a + 4 + j) ha hy (by omega) lt.1 P.2.1 P.2.2
  have e := P.2.1 (a + 4 + j) (Nat.le_refl _) (by omega)
  exact ⟨q, (mv_keep R P.1 (x := gw (fdS (tb h + 300) s (a + 4) j).W (a + 4 + j)) (by rw [e]; exact ff)).2⟩
def kpS (h : Hp) : Nat → SV
  | 0 => rtS h h.roots.length
  | i + 1 => fdS (tb h + 300) (kpS h i) ((h.kept.getD i 0).toNat + 4) (gw h.words (h.kept.getD i 0).toNat).toNat
theorem kept_mem {h : Hp} {l : List Nat} (R : RightAt h l) {x : Int} (hx : x ∈ h.kept) : ∃ a : Nat, x = a ∧ a ∈ l ∧ a < 2000 := by
  rw [← R.2.2.2.2.2.2.2.2] at hx
  unfold keptOf at hx
  obtain ⟨a, ha, rfl⟩ := List.mem_map.1 hx
  obtain ⟨h1, h2⟩ := List.mem_filter.1 ha
  rw [Bool.and_eq_true] at h2
  exact ⟨a, rfl, h1, of_decide_eq_true h2.1⟩
theorem kept_lt {h : Hp} {l : List Nat} (R : RightAt h l) {i j : Nat} (hj : j < h.kept.length) (hij : i < j) : h.kept.getD i 0 < h.kept.getD j 0 := by
  have so := ((right_iff R.1.1).1 R).1.sorted
  have P : h.kept.Pairwise (· < ·) := by
    rw [← R.2.2.2.2.2.2.2.2]
    unfold keptOf ints
    rw [List.pairwise_map]
    exact (so.filter _).imp (fun q => by omega)
  have := List.pairwise_iff_getElem.1 P i j (by omega) hj hij
  simpa [List.getD_eq_getElem?_getD, hj, show i < h.kept.length from by omega] using this
theorem lowAs.up {h : Hp} {s : SV} {f g : Nat} (L : lowAs h s f) (k : f ≤ g) : lowAs h s g := fun j h1 h2 => L j (by omega) h2

/-- What was moved, behind i of them. -/
def quS (h : Hp) : Nat → SV
  | 0 => kpS h h.kept.length
  | i + 1 => if i < (quS h i).q.length then qdS h (quS h i) ((quS h i).q.getD i 0 + 4) (gw (quS h i).W ((quS h i).q.getD i 0)).toNat else quS h i
def PC (h : Hp) (l : List Nat) (s : SV) (i f : Nat) : Prop := SI h l s ∧ QC l s i f
theorem pc_start {h : Hp} {l : List Nat} {s : SV} {f : Nat} (P : PA h l s f) : PC h l s 0 0 := ⟨P.1, fun _ _ jl k k1 _ k2 => P.2.2 _ (getD_mem jl) k k1 k2⟩
theorem pc_in {h : Hp} {l : List Nat} {s : SV} {i : Nat} (P : PC h l s i 0) : PC h l s i (s.q.getD i 0 + 4) := ⟨P.1, fun j ij jl k k1 _ k2 => P.2 j ij jl k k1 (fun _ => Nat.zero_le _) k2⟩
theorem pc_next {h : Hp} {l : List Nat} {s : SV} {i f : Nat} (P : PC h l s i f) : PC h l s (i + 1) 0 := ⟨P.1, fun j ij jl k k1 _ k2 => P.2 j (by omega) jl k k1 (fun e => by omega) k2⟩
end Go.Proofs.YtklafifiphbibaaGreat

/- The scavenger in plain words: the heap at its end. -/
namespace Go.Proofs.YtklafifiphbibaaGreat
open Go.RowKit

/-- Words in which a stretch is nought. -/
def zr (W : List Int) (lo hi : Nat) : List Int := (List.range W.length).map fun j => if lo ≤ j ∧ j < hi then 0 else gw W j
theorem zr_len (W : List Int) (lo hi : Nat) : (zr W lo hi).length = W.length := by simp [zr]
theorem zr_gw (W : List Int) (lo hi j : Nat) : gw (zr W lo hi) j = if lo ≤ j ∧ j < hi then 0 else gw W j := by
  by_cases h : j < W.length
  · unfold zr
    show ((List.range W.length).map _).getD j 0 = _
    simp [List.getD_eq_getElem?_getD, h]
  · have e : gw W j = 0 := by
      unfold gw
      simp [List.getD_eq_getElem?_getD, show W[j]? = none from List.getElem?_eq_none (by omega)]
    have e2 : gw (zr W lo hi) j = 0 := by
      unfold gw
      simp [List.getD_eq_getElem?_getD, show (zr W lo hi)[j]? = none from List.getElem?_eq_none (by rw [zr_len]; omega)]
    rw [e, e2]
    split <;> rfl
theorem zr_start (W : List Int) (lo : Nat) : zr W lo lo = W := by
  refine ilists_eq (zr_len _ _ _) fun j _ => ?_
  have q := zr_gw W lo lo j
  rw [if_neg (by omega)] at q
  exact q
theorem zr_set (W : List Int) (lo i : Nat) (h : lo ≤ i) (hi : i < W.length) : (zr W lo i).set i 0 = zr W lo (i + 1) := by
  refine ilists_eq (by rw [List.length_set, zr_len, zr_len]) fun j _ => ?_
  show gw ((zr W lo i).set i 0) j = gw (zr W lo (i + 1)) j
  rw [gw_set _ _ _ _ (by rw [zr_len]; exact hi), zr_gw, zr_gw]
  by_cases e : j = i
  · rw [if_pos e, if_pos (by omega)]
  · rw [if_neg e]
    by_cases k : lo ≤ j ∧ j < i
    · rw [if_pos k, if_pos (by omega)]
    · rw [if_neg k, if_neg (by omega)]
def finW (h : Hp) (W : List Int) : List Int := zr (zr W 2000 2600) (survB h.flip) (survB h.flip + 300)
theorem finW_gw (h : Hp) (W : List Int) (j : Nat) : (frm h j → gw (finW h W) j = 0) ∧ (¬ frm h j → gw (finW h W) j = gw W j) := by
  unfold finW frm
  rw [zr_gw, zr_gw]
  constructor
  · intro k
    split
    · rfl
    · rw [if_pos (by omega)]
  · intro k
    rw [if_neg (by omega), if_neg (by omega)]
def finH (h : Hp) (s : SV) (rl : List Int) (kp : List Int) : Hp := { words := finW h s.W, roots := rl, old := s.old, eden := 2000, surv := s.to, flip := !h.flip, hash := h.hash, kept := kp }
/-- The objects at the end. -/
theorem fin_parts {h : Hp} {l : List Nat} {s : SV} (S : SI h l s) (rl kp : List Int) : ∃ m, PartsAt (finH h s rl kp) m := by
  obtain ⟨m0, g0, q1, q2⟩ := S.g0
  obtain ⟨m2, g2, q3⟩ := S.g2
  have t3 := tb_two h
  have oo := S.old1
  have t0 := S.to0
  have t1 := S.to1
  have nf : ∀ j, ¬ frm h j → gw (finW h s.W) j = gw s.W j := fun j => (finW_gw h s.W j).2
  have G0 := goes_same (V := finW h s.W) g0 (fun a ha k hk => nf _ (fun q => by have := frm_not q; have := goes_in g0 ha; omega))
  have G2 := goes_same (V := finW h s.W) g2 (fun a ha k hk => nf _ (fun q => by have := (frm_not q).2; have := goes_in g2 ha; omega))
  have e : survB (!h.flip) = tb h := rfl
  refine ⟨_, by show (finW h s.W).length = 3200; unfold finW; rw [zr_len, zr_len]; exact S.len, ⟨by show (0 : Int) ≤ (s.old : Int); omega, by show (s.old : Int) ≤ 2000; omega⟩, ⟨Int.le_refl _, by show (2000 : Int) ≤ 2600; omega⟩, ⟨by show ((survB (!h.flip) : Nat) : Int) ≤ (s.to : Int); rw [e]; omega, by show (s.to : Int) ≤ ((survB (!h.flip) : Nat) : Int) + 300; rw [e]; omega⟩, m0, 0, m2, ?_, ⟨rfl, fun i hi => absurd hi (Nat.not_lt_zero i)⟩, ?_, rfl⟩
  · show Goes (finW h s.W) 0 ((s.old : Int)).toNat m0
    rw [Int.toNat_natCast]
    exact G0.1
  · show Goes (finW h s.W) (survB (!h.flip)) ((s.to : Int)).toNat m2
    rw [Int.toNat_natCast]
    exact G2.1
theorem fin_small {h : Hp} {l : List Nat} {s : SV} (S : SI h l s) (j : Nat) : smallI (gw (finW h s.W) j) := by
  unfold finW
  rw [zr_gw, zr_gw]
  split
  · unfold smallI; omega
  split
  · unfold smallI; omega
  · exact S.sm j
theorem small_half {x : Int} (h : smallI x) : -4611686018427387904 ≤ x.tdiv 2 ∧ x.tdiv 2 ≤ 4611686018427387904 := by
  obtain ⟨h1, h2⟩ := h
  rcases Int.le_total 0 x with k | k
  · rw [Int.tdiv_eq_ediv_of_nonneg k]
    omega
  · have e : x.tdiv 2 = -((-x) / 2) := by
      rw [show x = -(-x) from by omega, Int.neg_tdiv, Int.tdiv_eq_ediv_of_nonneg (by omega), Int.neg_neg]
    omega

end Go.Proofs.YtklafifiphbibaaGreat

/- The compacting collector in plain words: what is reached, where it goes, what is written. -/
namespace Go.Proofs.YtklafifiphbibaaGreat
open Go.RowKit

/-- An odd word that fits is the address of an object. -/
theorem odd_obj {l : List Nat} {x : Int} (hf : fitB l x = true) (ho : ¬ x % 2 = 0) : ∃ a : Nat, a ∈ l ∧ x / 2 = a ∧ x.tdiv 2 = a ∧ x = 2 * (a : Int) + 1 := by
  have k := fit_kind hf
  have k2 : kindW x = 2 := by
    rw [kind_odd ho] at k ⊢
    split at k
    · rename_i q; rw [if_pos q]
    · exact absurd rfl k
  rw [fit_ref (decide_eq_true k2), List.contains_iff_mem] at hf
  obtain ⟨a, ha, e⟩ := List.mem_map.1 hf
  refine ⟨a, ha, e.symm, ?_, by omega⟩
  rw [Int.tdiv_eq_ediv_of_nonneg (by omega)]
  exact e.symm

/-- One more of what is to do is looked at. -/
def rc1 (W : List Int) (s : List Int × List Bool) (i : Nat) : List Int × List Bool :=
  if s.1.getD i 0 % 2 = 0 then s else if s.2.getD (s.1.getD i 0 / 2).toNat false = true then s
  else (s.1 ++ flds W (s.1.getD i 0 / 2).toNat, s.2.set (s.1.getD i 0 / 2).toNat true)
def seen0 : List Bool := List.replicate 3200 false
theorem seen0_len : seen0.length = 3200 := List.length_replicate
/-- What is to do and what was seen, behind i of them. -/
def rcS (h : Hp) : Nat → List Int × List Bool
  | 0 => (h.roots, seen0)
  | i + 1 => if i < (rcS h i).1.length then rc1 h.words (rcS h i) i else rcS h i
structure RC (h : Hp) (l : List Nat) (s : List Int × List Bool) : Prop where
  fit : ∀ x, x ∈ s.1 → fitB l x = true
  len : s.2.length = 3200
  cnt : s.1.length ≤ h.roots.length + 60 * s.2.count true
theorem count_set : ∀ (s : List Bool) (a : Nat), a < s.length → s.getD a false = false → (s.set a true).count true = s.count true + 1
  | [], a, h, _ => absurd h (Nat.not_lt_zero a)
  | b :: s, 0, _, e => by
    have e' : b = false := e
    subst e'
    rw [List.set_cons_zero, List.count_cons, List.count_cons]
    simp
  | b :: s, a + 1, h, e => by
    have q := count_set s a (by simpa using h) (by simpa using e)
    rw [List.set_cons_succ, List.count_cons, List.count_cons, q]
    omega
theorem RC.short {h : Hp} {l : List Nat} {s : List Int × List Bool} (R : RightAt h l) (k : RC h l s) : s.1.length ≤ 192020 := by
  have a := R.2.2.2.2.2.1
  have b : s.2.count true ≤ s.2.length := List.count_le_length
  have c := k.cnt
  have d := k.len
  omega
theorem rc_start {h : Hp} {l : List Nat} (R : RightAt h l) : RC h l (rcS h 0) :=
  ⟨R.2.2.2.2.2.2.1, seen0_len, by show h.roots.length ≤ _; omega⟩
theorem flds_len (W : List Int) (a : Nat) : (flds W a).length = (gw W a).toNat := by simp [flds]
theorem rc_step {h : Hp} {l : List Nat} (R : RightAt h l) {s : List Int × List Bool} (k : RC h l s) {i : Nat} (hi : i < s.1.length) : RC h l (rc1 h.words s i) := by
  unfold rc1
  split
  · exact k
  split
  · exact k
  · rename_i h1 h2
    have hx : s.1.getD i 0 ∈ s.1 := by simp [hi]
    obtain ⟨a, ha, e, _, _⟩ := odd_obj (k.fit _ hx) h1
    rw [e, Int.toNat_natCast] at h2 ⊢
    obtain ⟨o1, o2, o3⟩ := R.1.obj ha
    have sz := size_of o3
    refine ⟨fun x hx => ?_, by show (s.2.set a true).length = 3200; rw [List.length_set]; exact k.len, ?_⟩
    · have hx' : x ∈ s.1 ++ flds h.words a := hx
      rw [List.mem_append] at hx'
      rcases hx' with q | q
      · exact k.fit x q
      · exact fld_mem.2 (R.2.2.2.2.2.2.2.1 a ha) x q
    · show (s.1 ++ flds h.words a).length ≤ h.roots.length + 60 * (s.2.set a true).count true
      rw [count_set _ _ (by rw [k.len]; omega) (by simpa using h2), List.length_append, flds_len]
      have := k.cnt
      omega

/-- Where each object goes (and 1), and where the last one ends, behind i of the objects. -/
def gt1 (W : List Int) (sn : List Bool) (s : List Nat × Nat) (a : Nat) : List Nat × Nat :=
  if sn.getD a false = true then (s.1.set a (s.2 + 1), s.2 + 4 + (gw W a).toNat) else s
def gtS (W : List Int) (sn : List Bool) (l : List Nat) : Nat → List Nat × Nat
  | 0 => (went0, 0)
  | i + 1 => gt1 W sn (gtS W sn l i) (l.getD i 0)
structure GT (W : List Int) (l : List Nat) (s : List Nat × Nat) (i : Nat) : Prop where
  len : s.1.length = 3200
  top : s.2 ≤ 64 * i
  le : ∀ a, s.1.getD a 0 ≤ s.2 + 1
  at_ : ∀ j, j < i → s.1.getD (l.getD j 0) 0 = 0 ∨ s.1.getD (l.getD j 0) 0 + 3 + (gw W (l.getD j 0)).toNat ≤ s.2
  z : ∀ a, (∀ j, j < i → l.getD j 0 ≠ a) → s.1.getD a 0 = 0
theorem getD_set_nat (s : List Nat) (a b x : Nat) (h : a < s.length) : (s.set a x).getD b 0 = if a = b then x else s.getD b 0 := by
  simp only [List.getD_eq_getElem?_getD, List.getElem?_set]
  by_cases e : a = b
  · subst e
    rw [if_pos rfl, if_pos h, if_pos rfl]
    rfl
  · rw [if_neg e, if_neg e]
theorem sorted_ne {l : List Nat} (so : l.Pairwise (· < ·)) {i j : Nat} (hi : i < l.length) (hj : j < i) : l.getD j 0 ≠ l.getD i 0 := by
  have P := List.pairwise_iff_getElem.1 so j i (by omega) hi hj
  simp only [List.getD_eq_getElem?_getD, List.getElem?_eq_getElem hi, List.getElem?_eq_getElem (show j < l.length from by omega), Option.getD_some]
  omega
theorem gt_start (W : List Int) (sn : List Bool) (l : List Nat) : GT W l (gtS W sn l 0) 0 :=
  ⟨went0_len, Nat.le_refl _, fun a => by show went0.getD a 0 ≤ _; rw [went0_get]; omega, fun j hj => absurd hj (Nat.not_lt_zero j), fun a _ => went0_get a⟩
theorem gt_step {h : Hp} {l : List Nat} (R : RightAt h l) (sn : List Bool) {s : List Nat × Nat} {i : Nat} (k : GT h.words l s i) (hi : i < l.length) : GT h.words l (gt1 h.words sn s (l.getD i 0)) (i + 1) := by
  have so := ((right_iff R.1.1).1 R).1.sorted
  have ha : l.getD i 0 ∈ l := getD_mem hi
  obtain ⟨o1, o2, o3⟩ := R.1.obj ha
  have sz := size_of o3
  have top := k.top
  unfold gt1
  split
  · have S : ∀ b, (s.1.set (l.getD i 0) (s.2 + 1)).getD b 0 = if l.getD i 0 = b then s.2 + 1 else s.1.getD b 0 := fun b => getD_set_nat _ _ _ _ (by rw [k.len]; omega)
    refine ⟨by show (s.1.set _ _).length = 3200; rw [List.length_set]; exact k.len, by show s.2 + 4 + _ ≤ _; omega, fun a => ?_, fun j hj => ?_, fun a q => ?_⟩
    · show (s.1.set _ _).getD a 0 ≤ s.2 + 4 + _ + 1
      rw [S]
      have := k.le a
      split <;> omega
    · show (s.1.set _ _).getD (l.getD j 0) 0 = 0 ∨ (s.1.set _ _).getD (l.getD j 0) 0 + 3 + _ ≤ s.2 + 4 + _
      rw [S]
      by_cases e : j = i
      · subst e
        rw [if_pos rfl]
        right
        omega
      · rw [if_neg (fun e2 => sorted_ne so hi (show j < i from by omega) e2.symm)]
        rcases k.at_ j (by omega) with q | q
        · exact .inl q
        · right; omega
    · show (s.1.set _ _).getD a 0 = 0
      rw [S, if_neg (q i (by omega))]
      exact k.z a fun j hj => q j (by omega)
  · refine ⟨k.len, by omega, k.le, fun j hj => ?_, fun a q => k.z a fun j hj => q j (by omega)⟩
    by_cases e : j = i
    · subst e
      exact .inl (k.z _ fun j' hj' => sorted_ne so hi hj')
    · exact k.at_ j (by omega)

/-- A word of a reached object, behind the moves. -/
def cw (went : List Nat) (x : Int) : Int := if x % 2 = 0 then x else 2 * (((went.getD (x / 2).toNat 0 : Nat) : Int) - 1) + 1
/-- The words of one object: behind k of them. -/
def cf (W : List Int) (went : List Nat) (V : List Int) (a to : Nat) : Nat → List Int
  | 0 => V
  | k + 1 => (cf W went V a to k).set (to + k) (if 4 ≤ k then cw went (gw W (a + k)) else gw W (a + k))
/-- The words behind i objects. -/
def cfS (W : List Int) (went : List Nat) (l : List Nat) : Nat → List Int
  | 0 => List.replicate 3200 0
  | i + 1 => if went.getD (l.getD i 0) 0 = 0 then cfS W went l i else cf W went (cfS W went l i) (l.getD i 0) (went.getD (l.getD i 0) 0 - 1) (4 + (gw W (l.getD i 0)).toNat)
theorem cf_len (W : List Int) (went : List Nat) (V : List Int) (a to : Nat) : ∀ k, (cf W went V a to k).length = V.length
  | 0 => rfl
  | k + 1 => by rw [cf, List.length_set]; exact cf_len W went V a to k
theorem cfS_len (W : List Int) (went : List Nat) (l : List Nat) : ∀ i, (cfS W went l i).length = 3200
  | 0 => List.length_replicate
  | i + 1 => by
    rw [cfS]
    split
    · exact cfS_len W went l i
    · rw [cf_len]; exact cfS_len W went l i
/-- The compacted heap. -/
def coH (h : Hp) (l went : List Nat) (e : Nat) : Hp := { words := cfS h.words went l l.length, roots := h.roots.map (cw went), old := e, eden := 2000, surv := 2600, flip := false, hash := h.hash, kept := [] }

end Go.Proofs.YtklafifiphbibaaGreat
