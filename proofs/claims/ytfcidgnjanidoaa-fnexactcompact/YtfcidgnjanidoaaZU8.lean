import Derived.Test.YtfcidgnjanidoaaZVPlain
/- The scavenger's loops in plain words. -/
namespace Go.Proofs.Ytfcidgnjanidoaa
open Go.RowKit

/-- All that was moved has fields that fit the heap of before. -/
def QA (l : List Nat) (s : SV) : Prop := ∀ d, d ∈ s.q → ∀ k, d + 4 ≤ k → k < nx s.W d → fitB l (gw s.W k) = true
/-- The same from the i-th on, of the i-th one from f on. -/
def QC (l : List Nat) (s : SV) (i f : Nat) : Prop := ∀ j, i ≤ j → j < s.q.length → ∀ k, s.q.getD j 0 + 4 ≤ k → (j = i → f ≤ k) → k < nx s.W (s.q.getD j 0) → fitB l (gw s.W k) = true
def lowAs (h : Hp) (s : SV) (f : Nat) : Prop := ∀ j, f ≤ j → j < h.old.toNat → gw s.W j = gw h.words j

theorem getD_mem {q : List Nat} {i : Nat} (h : i < q.length) : q.getD i 0 ∈ q := by simp [h]

theorem Mvd.in {h : Hp} {l : List Nat} {s s' : SV} (S : SI h l s) (M : Mvd h l s s') {d : Nat} (hd : d ∈ s.q) {k : Nat} (h1 : d ≤ k) (h2 : k < nx s.W d) : gw s'.W k = gw s.W k := by
  have q := S.ar d hd
  have t3 := tb_two h
  have := S.old1
  have := S.to1
  have := S.to0
  refine M.out k ?_ ?_ <;> omega
theorem Mvd.nxe {h : Hp} {l : List Nat} {s s' : SV} (S : SI h l s) (M : Mvd h l s s') {d : Nat} (hd : d ∈ s.q) : nx s'.W d = nx s.W d := by
  have e : nx s.W d = d + 4 + (gw s.W d).toNat := rfl
  unfold nx
  rw [M.in S hd (Nat.le_refl _) (by omega)]
theorem Mvd.low {h : Hp} {l : List Nat} {s s' : SV} (S : SI h l s) (M : Mvd h l s s') {f : Nat} (L : lowAs h s f) : lowAs h s' f := fun j h1 h2 => by
  have := S.old0
  have := S.to0
  have t3 := tb_two h
  have o0 : s.old ≤ 2000 := S.old1
  rw [M.out j (by omega) (by omega)]
  exact L j h1 h2
theorem Mvd.len {h : Hp} {l : List Nat} {s s' : SV} (M : Mvd h l s s') : s.q.length ≤ s'.q.length ∧ ∀ j, j < s.q.length → s'.q.getD j 0 = s.q.getD j 0 := by
  rcases M.q with e | ⟨d, e, _⟩
  · rw [e]
    exact ⟨Nat.le_refl _, fun _ _ => rfl⟩
  · rw [e]
    refine ⟨by simp, fun j hj => ?_⟩
    simp only [List.getD_eq_getElem?_getD]
    rw [List.getElem?_append_left hj]
theorem Mvd.qa {h : Hp} {l : List Nat} {s s' : SV} (S : SI h l s) (M : Mvd h l s s') (A : QA l s) : QA l s' := by
  intro d hd k k1 k2
  have old : d ∈ s.q → fitB l (gw s'.W k) = true := fun hd => by
    rw [M.nxe S hd] at k2
    rw [M.in S hd (by omega) k2]
    exact A d hd k k1 k2
  rcases M.q with e | ⟨d', e, F⟩
  · rw [e] at hd
    exact old hd
  · rw [e, List.mem_append, List.mem_singleton] at hd
    rcases hd with hd | rfl
    · exact old hd
    · exact F k k1 k2
theorem Mvd.qc {h : Hp} {l : List Nat} {s s' : SV} (S : SI h l s) (M : Mvd h l s s') {i f : Nat} (A : QC l s i f) : QC l s' i f := by
  intro j ij jl k k1 kf k2
  by_cases hj : j < s.q.length
  · rw [M.len.2 j hj] at k1 k2
    have hd := getD_mem hj
    rw [M.nxe S hd] at k2
    rw [M.in S hd (by omega) k2]
    exact A j ij hj k k1 kf k2
  · rcases M.q with e | ⟨d', e, F⟩
    · rw [e] at jl
      exact absurd jl hj
    · have jj : j = s.q.length := by
        rw [e] at jl
        simp at jl
        omega
      have ed : s'.q.getD j 0 = d' := by
        rw [e, jj]
        simp
      rw [ed] at k1 k2
      exact F k k1 k2

/-- One field: it is moved, and set. -/
def fd1 (lim : Nat) (t : SV) (f : Nat) : SV := { (mv lim t (gw t.W f)).1 with W := (mv lim t (gw t.W f)).1.W.set f (mv lim t (gw t.W f)).2 }
def fdS (lim : Nat) (s : SV) (f : Nat) : Nat → SV
  | 0 => s
  | k + 1 => fd1 lim (fdS lim s f k) (f + k)

theorem fd_low {h : Hp} {l : List Nat} (R : RightAt h l) {s : SV} (S : SI h l s) {f : Nat} {a : Nat} (ha : a ∈ l) (a2 : a < 2000) (f1 : a + 4 ≤ f) (f2 : f < nx h.words a) (L : lowAs h s f) (A : QA l s) :
    SI h l (fd1 (tb h + 300) s f) ∧ lowAs h (fd1 (tb h + 300) s f) (f + 1) ∧ QA l (fd1 (tb h + 300) s f) := by
  have ff := R.2.2.2.2.2.2.2.1 a ha f f1 f2
  have hf : f < h.old.toNat := by have := old_area R ha a2; omega
  have e := L f (Nat.le_refl _) hf
  have m := mv_keep R S (x := gw s.W f) (by rw [e]; exact ff)
  have ss := set_keep R m.1.si (f := f) (y := (mv (tb h + 300) s (gw s.W f)).2) (.inl ⟨a, ha, a2, f1, f2⟩) m.2
  have L1 := m.1.low S L
  have A1 := m.1.qa S A
  refine ⟨ss.1, fun j h1 h2 => ?_, fun d hd k k1 k2 => ?_⟩
  · show gw ((mv (tb h + 300) s (gw s.W f)).1.W.set f (mv (tb h + 300) s (gw s.W f)).2) j = _
    rw [ss.2.1, if_neg (by omega)]
    exact L1 j (by omega) h2
  · have hd' : d ∈ (mv (tb h + 300) s (gw s.W f)).1.q := hd
    have k2' : k < nx ((mv (tb h + 300) s (gw s.W f)).1.W.set f (mv (tb h + 300) s (gw s.W f)).2) d := k2
    rw [ss.2.2 d hd'] at k2'
    show fitB l (gw ((mv (tb h + 300) s (gw s.W f)).1.W.set f (mv (tb h + 300) s (gw s.W f)).2) k) = true
    have := m.1.si.ar d hd'
    have t3 := tb_two h
    have ho : h.old.toNat ≤ 2000 := by have := S.old0; have := S.old1; omega
    rw [ss.2.1, if_neg (by omega)]
    exact A1 d hd' k k1 k2'

/-- Does an address lie in what is left? -/
def frB (h : Hp) (a : Int) : Bool := decide (2000 ≤ a ∧ a < 2600) || decide ((survB h.flip : Int) ≤ a ∧ a < (survB h.flip : Int) + 300)
def qd1 (h : Hp) (t : SV) (f : Nat) : SV := if (!decide (gw t.W f % 2 = 0) && frB h (gw t.W f / 2)) = true then fd1 (tb h + 300) t f else t
def qdS (h : Hp) (s : SV) (f : Nat) : Nat → SV
  | 0 => s
  | k + 1 => qd1 h (qdS h s f k) (f + k)

theorem qd_keep {h : Hp} {l : List Nat} (R : RightAt h l) {s : SV} (S : SI h l s) {i f : Nat} (hi : i < s.q.length) (h1 : s.q.getD i 0 + 4 ≤ f) (h2 : f < nx s.W (s.q.getD i 0)) (C : QC l s i f) :
    SI h l (qd1 h s f) ∧ QC l (qd1 h s f) i (f + 1) ∧ s.q.length ≤ (qd1 h s f).q.length ∧ (qd1 h s f).q.getD i 0 = s.q.getD i 0 ∧ nx (qd1 h s f).W (s.q.getD i 0) = nx s.W (s.q.getD i 0) := by
  have ff := C i (Nat.le_refl _) hi f h1 (fun _ => Nat.le_refl _) h2
  unfold qd1
  by_cases g : (!decide (gw s.W f % 2 = 0) && frB h (gw s.W f / 2)) = true
  · rw [if_pos g]
    have m := mv_keep R S (x := gw s.W f) ff
    have hd := getD_mem hi
    have len := m.1.len
    have hd1 : s.q.getD i 0 ∈ (mv (tb h + 300) s (gw s.W f)).1.q := by
      rw [← len.2 i hi]
      exact getD_mem (by omega)
    have n1 := m.1.nxe S hd
    have ss := set_keep R m.1.si (f := f) (y := (mv (tb h + 300) s (gw s.W f)).2) (.inr ⟨_, hd1, h1, by rw [n1]; exact h2⟩) m.2
    have C1 := m.1.qc S C
    refine ⟨ss.1, fun j ij jl k k1 kf k2 => ?_, len.1, len.2 i hi, ?_⟩
    · have jl' : j < (mv (tb h + 300) s (gw s.W f)).1.q.length := jl
      have hj := getD_mem jl'
      have k2' : k < nx ((mv (tb h + 300) s (gw s.W f)).1.W.set f (mv (tb h + 300) s (gw s.W f)).2) ((mv (tb h + 300) s (gw s.W f)).1.q.getD j 0) := k2
      rw [ss.2.2 _ hj] at k2'
      have k1' : (mv (tb h + 300) s (gw s.W f)).1.q.getD j 0 + 4 ≤ k := k1
      show fitB l (gw ((mv (tb h + 300) s (gw s.W f)).1.W.set f (mv (tb h + 300) s (gw s.W f)).2) k) = true
      have ne : k ≠ f := by
        intro e
        subst e
        by_cases ji : j = i
        · have := kf ji
          omega
        · have P := List.pairwise_iff_getElem.1 m.1.si.dis i j (by omega) jl' (by omega)
          have ei : (mv (tb h + 300) s (gw s.W k)).1.q[i]'(by omega) = s.q.getD i 0 := by
            rw [← len.2 i hi]
            simp [List.getD_eq_getElem?_getD, show i < (mv (tb h + 300) s (gw s.W k)).1.q.length from by omega]
          have ej : (mv (tb h + 300) s (gw s.W k)).1.q[j]'jl' = (mv (tb h + 300) s (gw s.W k)).1.q.getD j 0 := by
            simp [List.getD_eq_getElem?_getD, jl']
          rw [ei, ej, n1] at P
          omega
      rw [ss.2.1, if_neg ne]
      exact C1 j ij jl' k k1' (fun e => by have := kf e; omega) k2'
    · show nx ((mv (tb h + 300) s (gw s.W f)).1.W.set f (mv (tb h + 300) s (gw s.W f)).2) _ = _
      rw [ss.2.2 _ hd1, n1]
  · rw [if_neg g]
    exact ⟨S, fun j ij jl k k1 kf k2 => C j ij jl k k1 (fun e => by have := kf e; omega) k2, Nat.le_refl _, rfl, rfl⟩

end Go.Proofs.Ytfcidgnjanidoaa

/- The scavenger in plain words: the beginning, the loops' states. -/
namespace Go.Proofs.Ytfcidgnjanidoaa
open Go.RowKit

theorem goes_cover {W : List Int} {f : Nat} : ∀ {n t : Nat}, Goes W f t n → ∀ j, f ≤ j → j < t → ∃ a, a ∈ its W f n ∧ a ≤ j ∧ j < nx W a
  | 0, t, g, j, h1, h2 => by
    have := g.1
    have e : it W f 0 = f := rfl
    omega
  | n + 1, t, g, j, h1, h2 => by
    have e : it W f (n + 1) = nx W (it W f n) := rfl
    rcases Nat.lt_or_ge j (it W f n) with k | k
    · obtain ⟨a, ha, p, q⟩ := goes_cover (n := n) (t := it W f n) ⟨rfl, fun i hi => g.2 i (by omega)⟩ j h1 k
      obtain ⟨i, hi, e⟩ := mem_its.1 ha
      exact ⟨a, mem_its.2 ⟨i, by omega, e⟩, p, q⟩
    · refine ⟨it W f n, mem_its.2 ⟨n, by omega, rfl⟩, k, ?_⟩
      have := g.1
      omega
theorem parts_cover {h : Hp} {l : List Nat} (P : PartsAt h l) {j : Nat} (hj : inUse h j) : ∃ a, a ∈ l ∧ a ≤ j ∧ j < nx h.words a := by
  obtain ⟨_, r0, r1, r2, n0, n1, n2, g0, g1, g2, rfl⟩ := P
  rcases hj with k | k | k
  · obtain ⟨a, ha, p, q⟩ := goes_cover g0 j (Nat.zero_le _) (by omega)
    exact ⟨a, by simp [ha], p, q⟩
  · obtain ⟨a, ha, p, q⟩ := goes_cover g1 j k.1 (by omega)
    exact ⟨a, by simp [ha], p, q⟩
  · obtain ⟨a, ha, p, q⟩ := goes_cover g2 j k.1 (by omega)
    exact ⟨a, by simp [ha], p, q⟩
theorem words_small {h : Hp} {l : List Nat} (R : RightAt h l) (j : Nat) : smallI (gw h.words j) := by
  by_cases hj : inUse h j
  · obtain ⟨a, ha, p, q⟩ := parts_cover R.1 hj
    obtain ⟨o1, o2, o3⟩ := R.1.obj ha
    by_cases k : a + 4 ≤ j
    · exact small_fit (R.2.2.2.2.2.2.2.1 a ha j k q)
    · have h1 := R.2.2.2.1 a ha
      have h2 := R.2.2.2.2.1.1 a ha
      have h3 := R.2.2.1
      unfold headB at o3
      rw [Bool.and_eq_true, Bool.and_eq_true] at o3
      have e0 := of_decide_eq_true o3.1
      have e1 := of_decide_eq_true o3.2.1
      have e3 := of_decide_eq_true o3.2.2
      have : j = a ∨ j = a + 1 ∨ j = a + 2 ∨ j = a + 3 := by omega
      unfold smallI
      rcases this with rfl | rfl | rfl | rfl <;> omega
  · have e : gw h.words j = 0 := by
      by_cases k : j < 3200
      · exact R.2.1 j k hj
      · unfold gw
        have := R.1.1
        simp [List.getD_eq_getElem?_getD, show h.words[j]? = none from List.getElem?_eq_none (by omega)]
    rw [e]
    unfold smallI
    omega

def went0 : List Nat := List.replicate 3200 0
theorem went0_len : went0.length = 3200 := List.length_replicate
theorem went0_get (a : Nat) : went0.getD a 0 = 0 := by
  unfold went0
  rw [List.getD_eq_getElem?_getD, List.getElem?_replicate]
  split <;> rfl
def sv0 (h : Hp) : SV := ⟨h.words, h.old.toNat, tb h, went0, [], false⟩
theorem sv0_si {h : Hp} {l : List Nat} (R : RightAt h l) : SI h l (sv0 h) ∧ lowAs h (sv0 h) 0 ∧ QA l (sv0 h) := by
  have o := R.1.2.1
  refine ⟨⟨R.1.1, went0_len, fun _ _ => rfl, Nat.le_refl _, by show h.old.toNat ≤ 2000; omega, Nat.le_refl _, by show tb h ≤ _; omega, fun a => ?_, fun d hd => absurd hd List.not_mem_nil, List.Pairwise.nil, by show 4 * 0 + h.old.toNat + tb h ≤ h.old.toNat + tb h; omega, words_small R, ?_, ⟨0, ⟨rfl, fun i hi => absurd hi (Nat.not_lt_zero i)⟩, fun d hd => absurd hd List.not_mem_nil⟩, fun j j1 j2 => ?_, fun j j1 j2 => ?_⟩, fun _ _ _ => rfl, fun d hd => absurd hd List.not_mem_nil⟩
  · show went0.getD a 0 ≤ 3200
    rw [went0_get]
    omega
  · obtain ⟨_, r0, r1, r2, n0, n1, n2, g0, g1, g2, e⟩ := R.1
    have hs : 2600 ≤ survB h.flip := by unfold survB; split <;> omega
    refine ⟨n0, g0, fun a ha a2 => ⟨?_, rfl⟩, fun d hd => absurd hd List.not_mem_nil⟩
    rw [e, List.mem_append, List.mem_append] at ha
    rcases ha with (ha | ha) | ha
    · exact ha
    · have := goes_in g1 ha; omega
    · have := goes_in g2 ha; omega
  · refine R.2.1 j (by omega) ?_
    have hs : 2600 ≤ survB h.flip := by unfold survB; split <;> omega
    have j1' : h.old.toNat ≤ j := j1
    unfold inUse
    omega
  · have t3 := tb_two h
    have j1' : tb h ≤ j := j1
    have r1 := R.1.2.2.1
    have r2 := R.1.2.2.2.1
    refine R.2.1 j (by omega) ?_
    unfold inUse
    omega

/-- The roots: behind i of them. -/
def rtS (h : Hp) : Nat → SV
  | 0 => sv0 h
  | i + 1 => (mv (tb h + 300) (rtS h i) (h.roots.getD i 0)).1
def rtY (h : Hp) (i : Nat) : Int := (mv (tb h + 300) (rtS h i) (h.roots.getD i 0)).2
def rtL (h : Hp) (i : Nat) : List Int := (List.range i).map (rtY h) ++ h.roots.drop i
theorem rtL_len (h : Hp) {i : Nat} (hi : i ≤ h.roots.length) : (rtL h i).length = h.roots.length := by simp [rtL]; omega
theorem rtL_set (h : Hp) {i : Nat} (hi : i < h.roots.length) : (rtL h i).set i (rtY h i) = rtL h (i + 1) := by
  unfold rtL
  rw [List.set_append_right _ _ (by simp), List.length_map, List.length_range, Nat.sub_self, List.drop_eq_getElem_cons hi, List.set_cons_zero, List.range_succ, List.map_append]
  simp
def PA (h : Hp) (l : List Nat) (s : SV) (f : Nat) : Prop := SI h l s ∧ lowAs h s f ∧ QA l s
theorem rt_step {h : Hp} {l : List Nat} (R : RightAt h l) {i : Nat} (hi : i < h.roots.length) (P : PA h l (rtS h i) 0) : PA h l (rtS h (i + 1)) 0 ∧ smallI (rtY h i) := by
  have m := mv_keep R P.1 (x := h.roots.getD i 0) (R.2.2.2.2.2.2.1 _ (by simp [hi]))
  exact ⟨⟨m.1.si, m.1.low P.1 P.2.1, m.1.qa P.1 P.2.2⟩, m.2⟩

/-- The fields of an old object in Kept: behind j of them. -/
theorem fd_step {h : Hp} {l : List Nat} (R : RightAt h l) {a : Nat} (ha : a ∈ l) (hy : a < 2000) {s : SV} {j : Nat} (hj : (j : Int) < gw h.words a) (P : PA h l (fdS (tb h + 300) s (a + 4) j) (a + 4 + j)) : PA h l (fdS (tb h + 300) s (a + 4) (j + 1)) (a + 4 + (j + 1)) ∧ smallI (mv (tb h + 300) (fdS (tb h + 300) s (a + 4) j) (gw (fdS (tb h + 300) s (a + 4) j).W (a + 4 + j))).2 := by
  have o := old_area R ha hy
  have lt := put_lt R ha hj
  have ff := R.2.2.2.2.2.2.2.1 a ha (a + 4 + j) (by omega) lt.1
  have q := fd_low R P.1 (f := a + 4 + j) ha hy (by omega) lt.1 P.2.1 P.2.2
  have e := P.2.1 (a + 4 + j) (Nat.le_refl _) (by omega)
  exact ⟨q, (mv_keep R P.1 (x := gw (fdS (tb h + 300) s (a + 4) j).W (a + 4 + j)) (by rw [e]; exact ff)).2⟩
def kpS (h : Hp) : Nat → SV
  | 0 => rtS h h.roots.length
  | i + 1 => fdS (tb h + 300) (kpS h i) ((h.kept.getD i 0).toNat + 4) (gw h.words (h.kept.getD i 0).toNat).toNat
theorem kept_mem {h : Hp} {l : List Nat} (R : RightAt h l) {x : Int} (hx : x ∈ h.kept) : ∃ a : Nat, x = a ∧ a ∈ l ∧ a < 2000 := by
  rw [← R.2.2.2.2.2.2.2.2] at hx
  unfold keptOf at hx
  obtain ⟨a, ha, rfl⟩ := List.mem_map.1 hx
  obtain ⟨h1, h2⟩ := List.mem_filter.1 ha
  rw [Bool.and_eq_true] at h2
  exact ⟨a, rfl, h1, of_decide_eq_true h2.1⟩
theorem kept_lt {h : Hp} {l : List Nat} (R : RightAt h l) {i j : Nat} (hj : j < h.kept.length) (hij : i < j) : h.kept.getD i 0 < h.kept.getD j 0 := by
  have so := ((right_iff R.1.1).1 R).1.sorted
  have P : h.kept.Pairwise (· < ·) := by
    rw [← R.2.2.2.2.2.2.2.2]
    unfold keptOf ints
    rw [List.pairwise_map]
    exact (so.filter _).imp (fun q => by omega)
  have := List.pairwise_iff_getElem.1 P i j (by omega) hj hij
  simpa [List.getD_eq_getElem?_getD, hj, show i < h.kept.length from by omega] using this
theorem lowAs.up {h : Hp} {s : SV} {f g : Nat} (L : lowAs h s f) (k : f ≤ g) : lowAs h s g := fun j h1 h2 => L j (by omega) h2

/-- What was moved, behind i of them. -/
def quS (h : Hp) : Nat → SV
  | 0 => kpS h h.kept.length
  | i + 1 => if i < (quS h i).q.length then qdS h (quS h i) ((quS h i).q.getD i 0 + 4) (gw (quS h i).W ((quS h i).q.getD i 0)).toNat else quS h i
def PC (h : Hp) (l : List Nat) (s : SV) (i f : Nat) : Prop := SI h l s ∧ QC l s i f
theorem pc_start {h : Hp} {l : List Nat} {s : SV} {f : Nat} (P : PA h l s f) : PC h l s 0 0 := ⟨P.1, fun _ _ jl k k1 _ k2 => P.2.2 _ (getD_mem jl) k k1 k2⟩
theorem pc_in {h : Hp} {l : List Nat} {s : SV} {i : Nat} (P : PC h l s i 0) : PC h l s i (s.q.getD i 0 + 4) := ⟨P.1, fun j ij jl k k1 _ k2 => P.2 j ij jl k k1 (fun _ => Nat.zero_le _) k2⟩
theorem pc_next {h : Hp} {l : List Nat} {s : SV} {i f : Nat} (P : PC h l s i f) : PC h l s (i + 1) 0 := ⟨P.1, fun j ij jl k k1 _ k2 => P.2 j (by omega) jl k k1 (fun e => by omega) k2⟩
/-- The final words: what is left is nought. -/
def zeroW (h : Hp) (W : List Int) : List Int := (List.range 3200).map fun j => if (2000 ≤ j ∧ j < 2600) ∨ (survB h.flip ≤ j ∧ j < survB h.flip + 300) then 0 else gw W j

end Go.Proofs.Ytfcidgnjanidoaa
