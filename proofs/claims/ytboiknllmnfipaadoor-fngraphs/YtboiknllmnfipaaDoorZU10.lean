
import Derived.Test.YtboiknllmnfipaaDoorZVPlain
/- The scavenger's loops in plain words. -/
namespace Go.Proofs.YtboiknllmnfipaaDoor
open Go.RowKit

/-- All that was moved has fields that fit the heap of before. -/
def QA (l : List Nat) (s : SV) : Prop := ∀ d, d ∈ s.q → ∀ k, d + 4 ≤ k → k < nx s.W d → fitB l (gw s.W k) = true
/-- The same from the i-th on, of the i-th one from f on. -/
def QC (l : List Nat) (s : SV) (i f : Nat) : Prop := ∀ j, i ≤ j → j < s.q.length → ∀ k, s.q.getD j 0 + 4 ≤ k → (j = i → f ≤ k) → k < nx s.W (s.q.getD j 0) → fitB l (gw s.W k) = true
def lowAs (h : Hp) (s : SV) (f : Nat) : Prop := ∀ j, f ≤ j → j < h.old.toNat → gw s.W j = gw h.words j

theorem getD_mem {q : List Nat} {i : Nat} (h : i < q.length) : q.getD i 0 ∈ q := by simp [h]

theorem Mvd.in {h : Hp} {l : List Nat} {s s' : SV} (S : SI h l s) (M : Mvd h l s s') {d : Nat} (hd : d ∈ s.q) {k : Nat} (h1 : d ≤ k) (h2 : k < nx s.W d) : gw s'.W k = gw s.W k := by
  have q := S.ar d hd
  have t3 := tb_two h
  have := S.old1
  have := S.to1
  have := S.to0
  refine M.out k ?_ ?_ <;> omega
theorem Mvd.nxe {h : Hp} {l : List Nat} {s s' : SV} (S : SI h l s) (M : Mvd h l s s') {d : Nat} (hd : d ∈ s.q) : nx s'.W d = nx s.W d := by
  have e : nx s.W d = d + 4 + (gw s.W d).toNat := rfl
  unfold nx
  rw [M.in S hd (Nat.le_refl _) (by omega)]
theorem Mvd.low {h : Hp} {l : List Nat} {s s' : SV} (S : SI h l s) (M : Mvd h l s s') {f : Nat} (L : lowAs h s f) : lowAs h s' f := fun j h1 h2 => by
  have := S.old0
  have := S.to0
  have t3 := tb_two h
  have o0 : s.old ≤ 2000 := S.old1
  rw [M.out j (by omega) (by omega)]
  exact L j h1 h2
theorem Mvd.len {h : Hp} {l : List Nat} {s s' : SV} (M : Mvd h l s s') : s.q.length ≤ s'.q.length ∧ ∀ j, j < s.q.length → s'.q.getD j 0 = s.q.getD j 0 := by
  rcases M.q with e | ⟨d, e, _⟩
  · rw [e]
    exact ⟨Nat.le_refl _, fun _ _ => rfl⟩
  · rw [e]
    refine ⟨by simp, fun j hj => ?_⟩
    simp only [List.getD_eq_getElem?_getD]
    rw [List.getElem?_append_left hj]
theorem Mvd.qa {h : Hp} {l : List Nat} {s s' : SV} (S : SI h l s) (M : Mvd h l s s') (A : QA l s) : QA l s' := by
  intro d hd k k1 k2
  have old : d ∈ s.q → fitB l (gw s'.W k) = true := fun hd => by
    rw [M.nxe S hd] at k2
    rw [M.in S hd (by omega) k2]
    exact A d hd k k1 k2
  rcases M.q with e | ⟨d', e, F⟩
  · rw [e] at hd
    exact old hd
  · rw [e, List.mem_append, List.mem_singleton] at hd
    rcases hd with hd | rfl
    · exact old hd
    · exact F k k1 k2
theorem Mvd.qc {h : Hp} {l : List Nat} {s s' : SV} (S : SI h l s) (M : Mvd h l s s') {i f : Nat} (A : QC l s i f) : QC l s' i f := by
  intro j ij jl k k1 kf k2
  by_cases hj : j < s.q.length
  · rw [M.len.2 j hj] at k1 k2
    have hd := getD_mem hj
    rw [M.nxe S hd] at k2
    rw [M.in S hd (by omega) k2]
    exact A j ij hj k k1 kf k2
  · rcases M.q with e | ⟨d', e, F⟩
    · rw [e] at jl
      exact absurd jl hj
    · have jj : j = s.q.length := by
        rw [e] at jl
        simp at jl
        omega
      have ed : s'.q.getD j 0 = d' := by
        rw [e, jj]
        simp
      rw [ed] at k1 k2
      exact F k k1 k2

/-- One field: it is moved, and set. -/
def fd1 (lim : Nat) (t : SV) (f : Nat) : SV := { (mv lim t (gw t.W f)).1 with W := (mv lim t (gw t.W f)).1.W.set f (mv lim t (gw t.W f)).2 }
def fdS (lim : Nat) (s : SV) (f : Nat) : Nat → SV
  | 0 => s
  | k + 1 => fd1 lim (fdS lim s f k) (f + k)

theorem fd_low {h : Hp} {l : List Nat} (R : RightAt h l) {s : SV} (S : SI h l s) {f : Nat} {a : Nat} (ha : a ∈ l) (a2 : a < 2000) (f1 : a + 4 ≤ f) (f2 : f < nx h.words a) (L : lowAs h s f) (A : QA l s) :
    SI h l (fd1 (tb h + 300) s f) ∧ lowAs h (fd1 (tb h + 300) s f) (f + 1) ∧ QA l (fd1 (tb h + 300) s f) := by
  have ff := R.2.2.2.2.2.2.2.1 a ha f f1 f2
  have hf : f < h.old.toNat := by have := old_area R ha a2; omega
  have e := L f (Nat.le_refl _) hf
  have m := mv_keep R S (x := gw s.W f) (by rw [e]; exact ff)
  have ss := set_keep R m.1.si (f := f) (y := (mv (tb h + 300) s (gw s.W f)).2) (.inl ⟨a, ha, a2, f1, f2⟩) m.2
  have L1 := m.1.low S L
  have A1 := m.1.qa S A
  refine ⟨ss.1, fun j h1 h2 => ?_, fun d hd k k1 k2 => ?_⟩
  · show gw ((mv (tb h + 300) s (gw s.W f)).1.W.set f (mv (tb h + 300) s (gw s.W f)).2) j = _
    rw [ss.2.1, if_neg (by omega)]
    exact L1 j (by omega) h2
  · have hd' : d ∈ (mv (tb h + 300) s (gw s.W f)).1.q := hd
    have k2' : k < nx ((mv (tb h + 300) s (gw s.W f)).1.W.set f (mv (tb h + 300) s (gw s.W f)).2) d := k2
    rw [ss.2.2 d hd'] at k2'
    show fitB l (gw ((mv (tb h + 300) s (gw s.W f)).1.W.set f (mv (tb h + 300) s (gw s.W f)).2) k) = true
    have := m.1.si.ar d hd'
    have t3 := tb_two h
    have ho : h.old.toNat ≤ 2000 := by have := S.old0; have := S.old1; omega
    rw [ss.2.1, if_neg (by omega)]
    exact A1 d hd' k k1 k2'

/-- Does an address lie in what is left? -/
def frB (h : Hp) (a : Int) : Bool := decide (2000 ≤ a ∧ a < 2600) || decide ((survB h.flip : Int) ≤ a ∧ a < (survB h.flip : Int) + 300)
def qd1 (h : Hp) (t : SV) (f : Nat) : SV := if (!decide (gw t.W f % 2 = 0) && frB h (gw t.W f / 2)) = true then fd1 (tb h + 300) t f else t
def qdS (h : Hp) (s : SV) (f : Nat) : Nat → SV
  | 0 => s
  | k + 1 => qd1 h (qdS h s f k) (f + k)

theorem qd_keep {h : Hp} {l : List Nat} (R : RightAt h l) {s : SV} (S : SI h l s) {i f : Nat} (hi : i < s.q.length) (h1 : s.q.getD i 0 + 4 ≤ f) (h2 : f < nx s.W (s.q.getD i 0)) (C : QC l s i f) :
    SI h l (qd1 h s f) ∧ QC l (qd1 h s f) i (f + 1) ∧ s.q.length ≤ (qd1 h s f).q.length ∧ (qd1 h s f).q.getD i 0 = s.q.getD i 0 ∧ nx (qd1 h s f).W (s.q.getD i 0) = nx s.W (s.q.getD i 0) := by
  have ff := C i (Nat.le_refl _) hi f h1 (fun _ => Nat.le_refl _) h2
  unfold qd1
  by_cases g : (!decide (gw s.W f % 2 = 0) && frB h (gw s.W f / 2)) = true
  · rw [if_pos g]
    have m := mv_keep R S (x := gw s.W f) ff
    have hd := getD_mem hi
    have len := m.1.len
    have hd1 : s.q.getD i 0 ∈ (mv (tb h + 300) s (gw s.W f)).1.q := by
      rw [← len.2 i hi]
      exact getD_mem (by omega)
    have n1 := m.1.nxe S hd
    have ss := set_keep R m.1.si (f := f) (y := (mv (tb h + 300) s (gw s.W f)).2) (.inr ⟨_, hd1, h1, by rw [n1]; exact h2⟩) m.2
    have C1 := m.1.qc S C
    refine ⟨ss.1, fun j ij jl k k1 kf k2 => ?_, len.1, len.2 i hi, ?_⟩
    · have jl' : j < (mv (tb h + 300) s (gw s.W f)).1.q.length := jl
      have hj := getD_mem jl'
      have k2' : k < nx ((mv (tb h + 300) s (gw s.W f)).1.W.set f (mv (tb h + 300) s (gw s.W f)).2) ((mv (tb h + 300) s (gw s.W f)).1.q.getD j 0) := k2
      rw [ss.2.2 _ hj] at k2'
      have k1' : (mv (tb h + 300) s (gw s.W f)).1.q.getD j 0 + 4 ≤ k := k1
      show fitB l (gw ((mv (tb h + 300) s (gw s.W f)).1.W.set f (mv (tb h + 300) s (gw s.W f)).2) k) = true
      have ne : k ≠ f := by
        intro e
        subst e
        by_cases ji : j = i
        · have := kf ji
          omega
        · have P := List.pairwise_iff_getElem.1 m.1.si.dis i j (by omega) jl' (by omega)
          have ei : (mv (tb h + 300) s (gw s.W k)).1.q[i]'(by omega) = s.q.getD i 0 := by
            rw [← len.2 i hi]
            simp [List.getD_eq_getElem?_getD, show i < (mv (tb h + 300) s (gw s.W k)).1.q.length from by omega]
          have ej : (mv (tb h + 300) s (gw s.W k)).1.q[j]'jl' = (mv (tb h + 300) s (gw s.W k)).1.q.getD j 0 := by
            simp [List.getD_eq_getElem?_getD, jl']
          rw [ei, ej, n1] at P
          omega
      rw [ss.2.1, if_neg ne]
      exact C1 j ij jl' k k1' (fun e => by have := kf e; omega) k2'
    · show nx ((mv (tb h + 300) s (gw s.W f)).1.W.set f (mv (tb h + 300) s (gw s.W f)).2) _ = _
      rw [ss.2.2 _ hd1, n1]
  · rw [if_neg g]
    exact ⟨S, fun j ij jl k k1 kf k2 => C j ij jl k k1 (fun e => by have := kf e; omega) k2, Nat.le_refl _, rfl, rfl⟩

end Go.Proofs.YtboiknllmnfipaaDoor

/- The scavenger in plain words: the beginning, the loops' states. -/
namespace Go.Proofs.YtboiknllmnfipaaDoor
open Go.RowKit

theorem goes_cover {W : List Int} {f : Nat} : ∀ {n t : Nat}, Goes W f t n → ∀ j, f ≤ j → j < t → ∃ a, a ∈ its W f n ∧ a ≤ j ∧ j < nx W a
  | 0, t, g, j, h1, h2 => by
    have := g.1
    have e : it W f 0 = f := rfl
    omega
  | n + 1, t, g, j, h1, h2 => by
    have e : it W f (n + 1) = nx W (it W f n) := rfl
    rcases Nat.lt_or_ge j (it W f n) with k | k
    · obtain ⟨a, ha, p, q⟩ := goes_cover (n := n) (t := it W f n) ⟨rfl, fun i hi => g.2 i (by omega)⟩ j h1 k
      obtain ⟨i, hi, e⟩ := mem_its.1 ha
      exact ⟨a, mem_its.2 ⟨i, by omega, e⟩, p, q⟩
    · refine ⟨it W f n, mem_its.2 ⟨n, by omega, rfl⟩, k, ?_⟩
      have := g.1
      omega
theorem parts_cover {h : Hp} {l : List Nat} (P : PartsAt h l) {j : Nat} (hj : inUse h j) : ∃ a, a ∈ l ∧ a ≤ j ∧ j < nx h.words a := by
  obtain ⟨_, r0, r1, r2, n0, n1, n2, g0, g1, g2, rfl⟩ := P
  rcases hj with k | k | k
  · obtain ⟨a, ha, p, q⟩ := goes_cover g0 j (Nat.zero_le _) (by omega)
    exact ⟨a, by simp [ha], p, q⟩
  · obtain ⟨a, ha, p, q⟩ := goes_cover g1 j k.1 (by omega)
    exact ⟨a, by simp [ha], p, q⟩
  · obtain ⟨a, ha, p, q⟩ := goes_cover g2 j k.1 (by omega)
    exact ⟨a, by simp [ha], p, q⟩
theorem words_small {h : Hp} {l : List Nat} (R : RightAt h l) (j : Nat) : smallI (gw h.words j) := by
  by_cases hj : inUse h j
  · obtain ⟨a, ha, p, q⟩ := parts_cover R.1 hj
    obtain ⟨o1, o2, o3⟩ := R.1.obj ha
    by_cases k : a + 4 ≤ j
    · exact small_fit (R.2.2.2.2.2.2.2.1 a ha j k q)
    · have h1 := R.2.2.2.1 a ha
      have h2 := R.2.2.2.2.1.1 a ha
      have h3 := R.2.2.1
      unfold headB at o3
      rw [Bool.and_eq_true, Bool.and_eq_true] at o3
      have e0 := of_decide_eq_true o3.1
      have e1 := of_decide_eq_true o3.2.1
      have e3 := of_decide_eq_true o3.2.2
      have : j = a ∨ j = a + 1 ∨ j = a + 2 ∨ j = a + 3 := by omega
      unfold smallI
      rcases this with rfl | rfl | rfl | rfl <;> omega
  · have e : gw h.words j = 0 := by
      by_cases k : j < 3200
      · exact R.2.1 j k hj
      · unfold gw
        have := R.1.1
        simp [List.getD_eq_getElem?_getD, show h.words[j]? = none from List.getElem?_eq_none (by omega)]
    rw [e]
    unfold smallI
    omega

def went0 : List Nat := List.replicate 3200 0
theorem went0_len : went0.length = 3200 := List.length_replicate
theorem went0_get (a : Nat) : went0.getD a 0 = 0 := by
  unfold went0
  rw [List.getD_eq_getElem?_getD, List.getElem?_replicate]
  split <;> rfl
def sv0 (h : Hp) : SV := ⟨h.words, h.old.toNat, tb h, went0, [], false⟩
theorem sv0_si {h : Hp} {l : List Nat} (R : RightAt h l) : SI h l (sv0 h) ∧ lowAs h (sv0 h) 0 ∧ QA l (sv0 h) := by
  have o := R.1.2.1
  refine ⟨⟨R.1.1, went0_len, fun _ _ => rfl, Nat.le_refl _, by show h.old.toNat ≤ 2000; omega, Nat.le_refl _, by show tb h ≤ _; omega, fun a => ?_, fun d hd => absurd hd List.not_mem_nil, List.Pairwise.nil, by show 4 * 0 + h.old.toNat + tb h ≤ h.old.toNat + tb h; omega, words_small R, ?_, ⟨0, ⟨rfl, fun i hi => absurd hi (Nat.not_lt_zero i)⟩, fun d hd => absurd hd List.not_mem_nil⟩, fun j j1 j2 => ?_, fun j j1 j2 => ?_⟩, fun _ _ _ => rfl, fun d hd => absurd hd List.not_mem_nil⟩
  · show went0.getD a 0 ≤ 3200
    rw [went0_get]
    omega
  · obtain ⟨_, r0, r1, r2, n0, n1, n2, g0, g1, g2, e⟩ := R.1
    have hs : 2600 ≤ survB h.flip := by unfold survB; split <;> omega
    refine ⟨n0, g0, fun a ha a2 => ⟨?_, rfl⟩, fun d hd => absurd hd List.not_mem_nil⟩
    rw [e, List.mem_append, List.mem_append] at ha
    rcases ha with (ha | ha) | ha
    · exact ha
    · have := goes_in g1 ha; omega
    · have := goes_in g2 ha; omega
  · refine R.2.1 j (by omega) ?_
    have hs : 2600 ≤ survB h.flip := by unfold survB; split <;> omega
    have j1' : h.old.toNat ≤ j := j1
    unfold inUse
    omega
  · have t3 := tb_two h
    have j1' : tb h ≤ j := j1
    have r1 := R.1.2.2.1
    have r2 := R.1.2.2.2.1
    refine R.2.1 j (by omega) ?_
    unfold inUse
    omega

/-- The roots: behind i of them. -/
def rtS (h : Hp) : Nat → SV
  | 0 => sv0 h
  | i + 1 => (mv (tb h + 300) (rtS h i) (h.roots.getD i 0)).1
def rtY (h : Hp) (i : Nat) : Int := (mv (tb h + 300) (rtS h i) (h.roots.getD i 0)).2
def rtL (h : Hp) (i : Nat) : List Int := (List.range i).map (rtY h) ++ h.roots.drop i
theorem rtL_len (h : Hp) {i : Nat} (hi : i ≤ h.roots.length) : (rtL h i).length = h.roots.length := by simp [rtL]; omega
theorem rtL_set (h : Hp) {i : Nat} (hi : i < h.roots.length) : (rtL h i).set i (rtY h i) = rtL h (i + 1) := by
  unfold rtL
  rw [List.set_append_right _ _ (by simp), List.length_map, List.length_range, Nat.sub_self, List.drop_eq_getElem_cons hi, List.set_cons_zero, List.range_succ, List.map_append]
  simp
def PA (h : Hp) (l : List Nat) (s : SV) (f : Nat) : Prop := SI h l s ∧ lowAs h s f ∧ QA l s
theorem rt_step {h : Hp} {l : List Nat} (R : RightAt h l) {i : Nat} (hi : i < h.roots.length) (P : PA h l (rtS h i) 0) : PA h l (rtS h (i + 1)) 0 ∧ smallI (rtY h i) := by
  have m := mv_keep R P.1 (x := h.roots.getD i 0) (R.2.2.2.2.2.2.1 _ (by simp [hi]))
  exact ⟨⟨m.1.si, m.1.low P.1 P.2.1, m.1.qa P.1 P.2.2⟩, m.2⟩

/-- The fields of an old object in Kept: behind j of them. -/
theorem fd_step {h : Hp} {l : List Nat} (R : RightAt h l) {a : Nat} (ha : a ∈ l) (hy : a < 2000) {s : SV} {j : Nat} (hj : (j : Int) < gw h.words a) (P : PA h l (fdS (tb h + 300) s (a + 4) j) (a + 4 + j)) : PA h l (fdS (tb h + 300) s (a + 4) (j + 1)) (a + 4 + (j + 1)) ∧ smallI (mv (tb h + 300) (fdS (tb h + 300) s (a + 4) j) (gw (fdS (tb h + 300) s (a + 4) j).W (a + 4 + j))).2 := by
  have o := old_area R ha hy
  have lt := put_lt R ha hj
  have ff := R.2.2.2.2.2.2.2.1 a ha (a + 4 + j) (by omega) lt.1
  have q := fd_low R P.1 (f := a + 4 + j) ha hy (by omega) lt.1 P.2.1 P.2.2
  have e := P.2.1 (a + 4 + j) (Nat.le_refl _) (by omega)
  exact ⟨q, (mv_keep R P.1 (x := gw (fdS (tb h + 300) s (a + 4) j).W (a + 4 + j)) (by rw [e]; exact ff)).2⟩
def kpS (h : Hp) : Nat → SV
  | 0 => rtS h h.roots.length
  | i + 1 => fdS (tb h + 300) (kpS h i) ((h.kept.getD i 0).toNat + 4) (gw h.words (h.kept.getD i 0).toNat).toNat
theorem kept_mem {h : Hp} {l : List Nat} (R : RightAt h l) {x : Int} (hx : x ∈ h.kept) : ∃ a : Nat, x = a ∧ a ∈ l ∧ a < 2000 := by
  rw [← R.2.2.2.2.2.2.2.2] at hx
  unfold keptOf at hx
  obtain ⟨a, ha, rfl⟩ := List.mem_map.1 hx
  obtain ⟨h1, h2⟩ := List.mem_filter.1 ha
  rw [Bool.and_eq_true] at h2
  exact ⟨a, rfl, h1, of_decide_eq_true h2.1⟩
theorem kept_lt {h : Hp} {l : List Nat} (R : RightAt h l) {i j : Nat} (hj : j < h.kept.length) (hij : i < j) : h.kept.getD i 0 < h.kept.getD j 0 := by
  have so := ((right_iff R.1.1).1 R).1.sorted
  have P : h.kept.Pairwise (· < ·) := by
    rw [← R.2.2.2.2.2.2.2.2]
    unfold keptOf ints
    rw [List.pairwise_map]
    exact (so.filter _).imp (fun q => by omega)
  have := List.pairwise_iff_getElem.1 P i j (by omega) hj hij
  simpa [List.getD_eq_getElem?_getD, hj, show i < h.kept.length from by omega] using this
theorem lowAs.up {h : Hp} {s : SV} {f g : Nat} (L : lowAs h s f) (k : f ≤ g) : lowAs h s g := fun j h1 h2 => L j (by omega) h2

/-- What was moved, behind i of them. -/
def quS (h : Hp) : Nat → SV
  | 0 => kpS h h.kept.length
  | i + 1 => if i < (quS h i).q.length then qdS h (quS h i) ((quS h i).q.getD i 0 + 4) (gw (quS h i).W ((quS h i).q.getD i 0)).toNat else quS h i
def PC (h : Hp) (l : List Nat) (s : SV) (i f : Nat) : Prop := SI h l s ∧ QC l s i f
theorem pc_start {h : Hp} {l : List Nat} {s : SV} {f : Nat} (P : PA h l s f) : PC h l s 0 0 := ⟨P.1, fun _ _ jl k k1 _ k2 => P.2.2 _ (getD_mem jl) k k1 k2⟩
theorem pc_in {h : Hp} {l : List Nat} {s : SV} {i : Nat} (P : PC h l s i 0) : PC h l s i (s.q.getD i 0 + 4) := ⟨P.1, fun j ij jl k k1 _ k2 => P.2 j ij jl k k1 (fun _ => Nat.zero_le _) k2⟩
theorem pc_next {h : Hp} {l : List Nat} {s : SV} {i f : Nat} (P : PC h l s i f) : PC h l s (i + 1) 0 := ⟨P.1, fun j ij jl k k1 _ k2 => P.2 j (by omega) jl k k1 (fun e => by omega) k2⟩
end Go.Proofs.YtboiknllmnfipaaDoor

/- The scavenger in plain words: the heap at its end. -/
namespace Go.Proofs.YtboiknllmnfipaaDoor
open Go.RowKit

/-- Words in which a stretch is nought. -/
def zr (W : List Int) (lo hi : Nat) : List Int := (List.range W.length).map fun j => if lo ≤ j ∧ j < hi then 0 else gw W j
theorem zr_len (W : List Int) (lo hi : Nat) : (zr W lo hi).length = W.length := by simp [zr]
theorem zr_gw (W : List Int) (lo hi j : Nat) : gw (zr W lo hi) j = if lo ≤ j ∧ j < hi then 0 else gw W j := by
  by_cases h : j < W.length
  · unfold zr
    show ((List.range W.length).map _).getD j 0 = _
    simp [List.getD_eq_getElem?_getD, h]
  · have e : gw W j = 0 := by
      unfold gw
      simp [List.getD_eq_getElem?_getD, show W[j]? = none from List.getElem?_eq_none (by omega)]
    have e2 : gw (zr W lo hi) j = 0 := by
      unfold gw
      simp [List.getD_eq_getElem?_getD, show (zr W lo hi)[j]? = none from List.getElem?_eq_none (by rw [zr_len]; omega)]
    rw [e, e2]
    split <;> rfl
theorem zr_start (W : List Int) (lo : Nat) : zr W lo lo = W := by
  refine ilists_eq (zr_len _ _ _) fun j _ => ?_
  have q := zr_gw W lo lo j
  rw [if_neg (by omega)] at q
  exact q
theorem zr_set (W : List Int) (lo i : Nat) (h : lo ≤ i) (hi : i < W.length) : (zr W lo i).set i 0 = zr W lo (i + 1) := by
  refine ilists_eq (by rw [List.length_set, zr_len, zr_len]) fun j _ => ?_
  show gw ((zr W lo i).set i 0) j = gw (zr W lo (i + 1)) j
  rw [gw_set _ _ _ _ (by rw [zr_len]; exact hi), zr_gw, zr_gw]
  by_cases e : j = i
  · rw [if_pos e, if_pos (by omega)]
  · rw [if_neg e]
    by_cases k : lo ≤ j ∧ j < i
    · rw [if_pos k, if_pos (by omega)]
    · rw [if_neg k, if_neg (by omega)]
def finW (h : Hp) (W : List Int) : List Int := zr (zr W 2000 2600) (survB h.flip) (survB h.flip + 300)
theorem finW_gw (h : Hp) (W : List Int) (j : Nat) : (frm h j → gw (finW h W) j = 0) ∧ (¬ frm h j → gw (finW h W) j = gw W j) := by
  unfold finW frm
  rw [zr_gw, zr_gw]
  constructor
  · intro k
    split
    · rfl
    · rw [if_pos (by omega)]
  · intro k
    rw [if_neg (by omega), if_neg (by omega)]
def finH (h : Hp) (s : SV) (rl : List Int) (kp : List Int) : Hp := { words := finW h s.W, roots := rl, old := s.old, eden := 2000, surv := s.to, flip := !h.flip, hash := h.hash, kept := kp }
/-- The objects at the end. -/
theorem fin_parts {h : Hp} {l : List Nat} {s : SV} (S : SI h l s) (rl kp : List Int) : ∃ m, PartsAt (finH h s rl kp) m := by
  obtain ⟨m0, g0, q1, q2⟩ := S.g0
  obtain ⟨m2, g2, q3⟩ := S.g2
  have t3 := tb_two h
  have oo := S.old1
  have t0 := S.to0
  have t1 := S.to1
  have nf : ∀ j, ¬ frm h j → gw (finW h s.W) j = gw s.W j := fun j => (finW_gw h s.W j).2
  have G0 := goes_same (V := finW h s.W) g0 (fun a ha k hk => nf _ (fun q => by have := frm_not q; have := goes_in g0 ha; omega))
  have G2 := goes_same (V := finW h s.W) g2 (fun a ha k hk => nf _ (fun q => by have := (frm_not q).2; have := goes_in g2 ha; omega))
  have e : survB (!h.flip) = tb h := rfl
  refine ⟨_, by show (finW h s.W).length = 3200; unfold finW; rw [zr_len, zr_len]; exact S.len, ⟨by show (0 : Int) ≤ (s.old : Int); omega, by show (s.old : Int) ≤ 2000; omega⟩, ⟨Int.le_refl _, by show (2000 : Int) ≤ 2600; omega⟩, ⟨by show ((survB (!h.flip) : Nat) : Int) ≤ (s.to : Int); rw [e]; omega, by show (s.to : Int) ≤ ((survB (!h.flip) : Nat) : Int) + 300; rw [e]; omega⟩, m0, 0, m2, ?_, ⟨rfl, fun i hi => absurd hi (Nat.not_lt_zero i)⟩, ?_, rfl⟩
  · show Goes (finW h s.W) 0 ((s.old : Int)).toNat m0
    rw [Int.toNat_natCast]
    exact G0.1
  · show Goes (finW h s.W) (survB (!h.flip)) ((s.to : Int)).toNat m2
    rw [Int.toNat_natCast]
    exact G2.1
theorem fin_small {h : Hp} {l : List Nat} {s : SV} (S : SI h l s) (j : Nat) : smallI (gw (finW h s.W) j) := by
  unfold finW
  rw [zr_gw, zr_gw]
  split
  · unfold smallI; omega
  split
  · unfold smallI; omega
  · exact S.sm j
theorem small_half {x : Int} (h : smallI x) : -4611686018427387904 ≤ x.tdiv 2 ∧ x.tdiv 2 ≤ 4611686018427387904 := by
  obtain ⟨h1, h2⟩ := h
  rcases Int.le_total 0 x with k | k
  · rw [Int.tdiv_eq_ediv_of_nonneg k]
    omega
  · have e : x.tdiv 2 = -((-x) / 2) := by
      rw [show x = -(-x) from by omega, Int.neg_tdiv, Int.tdiv_eq_ediv_of_nonneg (by omega), Int.neg_neg]
    omega

end Go.Proofs.YtboiknllmnfipaaDoor

/- The compacting collector in plain words: what is reached, where it goes, what is written. -/
namespace Go.Proofs.YtboiknllmnfipaaDoor
open Go.RowKit

/-- An odd word that fits is the address of an object. -/
theorem odd_obj {l : List Nat} {x : Int} (hf : fitB l x = true) (ho : ¬ x % 2 = 0) : ∃ a : Nat, a ∈ l ∧ x / 2 = a ∧ x.tdiv 2 = a ∧ x = 2 * (a : Int) + 1 := by
  have k := fit_kind hf
  have k2 : kindW x = 2 := by
    rw [kind_odd ho] at k ⊢
    split at k
    · rename_i q; rw [if_pos q]
    · exact absurd rfl k
  rw [fit_ref (decide_eq_true k2), List.contains_iff_mem] at hf
  obtain ⟨a, ha, e⟩ := List.mem_map.1 hf
  refine ⟨a, ha, e.symm, ?_, by omega⟩
  rw [Int.tdiv_eq_ediv_of_nonneg (by omega)]
  exact e.symm

/-- One more of what is to do is looked at. -/
def rc1 (W : List Int) (s : List Int × List Bool) (i : Nat) : List Int × List Bool :=
  if s.1.getD i 0 % 2 = 0 then s else if s.2.getD (s.1.getD i 0 / 2).toNat false = true then s
  else (s.1 ++ flds W (s.1.getD i 0 / 2).toNat, s.2.set (s.1.getD i 0 / 2).toNat true)
def seen0 : List Bool := List.replicate 3200 false
theorem seen0_len : seen0.length = 3200 := List.length_replicate
/-- What is to do and what was seen, behind i of them. -/
def rcS (h : Hp) : Nat → List Int × List Bool
  | 0 => (h.roots, seen0)
  | i + 1 => if i < (rcS h i).1.length then rc1 h.words (rcS h i) i else rcS h i
structure RC (h : Hp) (l : List Nat) (s : List Int × List Bool) : Prop where
  fit : ∀ x, x ∈ s.1 → fitB l x = true
  len : s.2.length = 3200
  cnt : s.1.length ≤ h.roots.length + 60 * s.2.count true
theorem count_set : ∀ (s : List Bool) (a : Nat), a < s.length → s.getD a false = false → (s.set a true).count true = s.count true + 1
  | [], a, h, _ => absurd h (Nat.not_lt_zero a)
  | b :: s, 0, _, e => by
    have e' : b = false := e
    subst e'
    rw [List.set_cons_zero, List.count_cons, List.count_cons]
    simp
  | b :: s, a + 1, h, e => by
    have q := count_set s a (by simpa using h) (by simpa using e)
    rw [List.set_cons_succ, List.count_cons, List.count_cons, q]
    omega
theorem RC.short {h : Hp} {l : List Nat} {s : List Int × List Bool} (R : RightAt h l) (k : RC h l s) : s.1.length ≤ 192020 := by
  have a := R.2.2.2.2.2.1
  have b : s.2.count true ≤ s.2.length := List.count_le_length
  have c := k.cnt
  have d := k.len
  omega
theorem rc_start {h : Hp} {l : List Nat} (R : RightAt h l) : RC h l (rcS h 0) :=
  ⟨R.2.2.2.2.2.2.1, seen0_len, by show h.roots.length ≤ _; omega⟩
theorem flds_len (W : List Int) (a : Nat) : (flds W a).length = (gw W a).toNat := by simp [flds]
theorem rc_step {h : Hp} {l : List Nat} (R : RightAt h l) {s : List Int × List Bool} (k : RC h l s) {i : Nat} (hi : i < s.1.length) : RC h l (rc1 h.words s i) := by
  unfold rc1
  split
  · exact k
  split
  · exact k
  · rename_i h1 h2
    have hx : s.1.getD i 0 ∈ s.1 := by simp [hi]
    obtain ⟨a, ha, e, _, _⟩ := odd_obj (k.fit _ hx) h1
    rw [e, Int.toNat_natCast] at h2 ⊢
    obtain ⟨o1, o2, o3⟩ := R.1.obj ha
    have sz := size_of o3
    refine ⟨fun x hx => ?_, by show (s.2.set a true).length = 3200; rw [List.length_set]; exact k.len, ?_⟩
    · have hx' : x ∈ s.1 ++ flds h.words a := hx
      rw [List.mem_append] at hx'
      rcases hx' with q | q
      · exact k.fit x q
      · exact fld_mem.2 (R.2.2.2.2.2.2.2.1 a ha) x q
    · show (s.1 ++ flds h.words a).length ≤ h.roots.length + 60 * (s.2.set a true).count true
      rw [count_set _ _ (by rw [k.len]; omega) (by simpa using h2), List.length_append, flds_len]
      have := k.cnt
      omega

/-- Where each object goes (and 1), and where the last one ends, behind i of the objects. -/
def gt1 (W : List Int) (sn : List Bool) (s : List Nat × Nat) (a : Nat) : List Nat × Nat :=
  if sn.getD a false = true then (s.1.set a (s.2 + 1), s.2 + 4 + (gw W a).toNat) else s
def gtS (W : List Int) (sn : List Bool) (l : List Nat) : Nat → List Nat × Nat
  | 0 => (went0, 0)
  | i + 1 => gt1 W sn (gtS W sn l i) (l.getD i 0)
structure GT (W : List Int) (l : List Nat) (s : List Nat × Nat) (i : Nat) : Prop where
  len : s.1.length = 3200
  top : s.2 ≤ 64 * i
  le : ∀ a, s.1.getD a 0 ≤ s.2 + 1
  at_ : ∀ j, j < i → s.1.getD (l.getD j 0) 0 = 0 ∨ s.1.getD (l.getD j 0) 0 + 3 + (gw W (l.getD j 0)).toNat ≤ s.2
  z : ∀ a, (∀ j, j < i → l.getD j 0 ≠ a) → s.1.getD a 0 = 0
theorem getD_set_nat (s : List Nat) (a b x : Nat) (h : a < s.length) : (s.set a x).getD b 0 = if a = b then x else s.getD b 0 := by
  simp only [List.getD_eq_getElem?_getD, List.getElem?_set]
  by_cases e : a = b
  · subst e
    rw [if_pos rfl, if_pos h, if_pos rfl]
    rfl
  · rw [if_neg e, if_neg e]
theorem sorted_ne {l : List Nat} (so : l.Pairwise (· < ·)) {i j : Nat} (hi : i < l.length) (hj : j < i) : l.getD j 0 ≠ l.getD i 0 := by
  have P := List.pairwise_iff_getElem.1 so j i (by omega) hi hj
  simp only [List.getD_eq_getElem?_getD, List.getElem?_eq_getElem hi, List.getElem?_eq_getElem (show j < l.length from by omega), Option.getD_some]
  omega
theorem gt_start (W : List Int) (sn : List Bool) (l : List Nat) : GT W l (gtS W sn l 0) 0 :=
  ⟨went0_len, Nat.le_refl _, fun a => by show went0.getD a 0 ≤ _; rw [went0_get]; omega, fun j hj => absurd hj (Nat.not_lt_zero j), fun a _ => went0_get a⟩
theorem gt_step {h : Hp} {l : List Nat} (R : RightAt h l) (sn : List Bool) {s : List Nat × Nat} {i : Nat} (k : GT h.words l s i) (hi : i < l.length) : GT h.words l (gt1 h.words sn s (l.getD i 0)) (i + 1) := by
  have so := ((right_iff R.1.1).1 R).1.sorted
  have ha : l.getD i 0 ∈ l := getD_mem hi
  obtain ⟨o1, o2, o3⟩ := R.1.obj ha
  have sz := size_of o3
  have top := k.top
  unfold gt1
  split
  · have S : ∀ b, (s.1.set (l.getD i 0) (s.2 + 1)).getD b 0 = if l.getD i 0 = b then s.2 + 1 else s.1.getD b 0 := fun b => getD_set_nat _ _ _ _ (by rw [k.len]; omega)
    refine ⟨by show (s.1.set _ _).length = 3200; rw [List.length_set]; exact k.len, by show s.2 + 4 + _ ≤ _; omega, fun a => ?_, fun j hj => ?_, fun a q => ?_⟩
    · show (s.1.set _ _).getD a 0 ≤ s.2 + 4 + _ + 1
      rw [S]
      have := k.le a
      split <;> omega
    · show (s.1.set _ _).getD (l.getD j 0) 0 = 0 ∨ (s.1.set _ _).getD (l.getD j 0) 0 + 3 + _ ≤ s.2 + 4 + _
      rw [S]
      by_cases e : j = i
      · subst e
        rw [if_pos rfl]
        right
        omega
      · rw [if_neg (fun e2 => sorted_ne so hi (show j < i from by omega) e2.symm)]
        rcases k.at_ j (by omega) with q | q
        · exact .inl q
        · right; omega
    · show (s.1.set _ _).getD a 0 = 0
      rw [S, if_neg (q i (by omega))]
      exact k.z a fun j hj => q j (by omega)
  · refine ⟨k.len, by omega, k.le, fun j hj => ?_, fun a q => k.z a fun j hj => q j (by omega)⟩
    by_cases e : j = i
    · subst e
      exact .inl (k.z _ fun j' hj' => sorted_ne so hi hj')
    · exact k.at_ j (by omega)

/-- A word of a reached object, behind the moves. -/
def cw (went : List Nat) (x : Int) : Int := if x % 2 = 0 then x else 2 * (((went.getD (x / 2).toNat 0 : Nat) : Int) - 1) + 1
/-- The words of one object: behind k of them. -/
def cf (W : List Int) (went : List Nat) (V : List Int) (a to : Nat) : Nat → List Int
  | 0 => V
  | k + 1 => (cf W went V a to k).set (to + k) (if 4 ≤ k then cw went (gw W (a + k)) else gw W (a + k))
/-- The words behind i objects. -/
def cfS (W : List Int) (went : List Nat) (l : List Nat) : Nat → List Int
  | 0 => List.replicate 3200 0
  | i + 1 => if went.getD (l.getD i 0) 0 = 0 then cfS W went l i else cf W went (cfS W went l i) (l.getD i 0) (went.getD (l.getD i 0) 0 - 1) (4 + (gw W (l.getD i 0)).toNat)
theorem cf_len (W : List Int) (went : List Nat) (V : List Int) (a to : Nat) : ∀ k, (cf W went V a to k).length = V.length
  | 0 => rfl
  | k + 1 => by rw [cf, List.length_set]; exact cf_len W went V a to k
theorem cfS_len (W : List Int) (went : List Nat) (l : List Nat) : ∀ i, (cfS W went l i).length = 3200
  | 0 => List.length_replicate
  | i + 1 => by
    rw [cfS]
    split
    · exact cfS_len W went l i
    · rw [cf_len]; exact cfS_len W went l i
/-- The compacted heap. -/
def coH (h : Hp) (l went : List Nat) (e : Nat) : Hp := { words := cfS h.words went l l.length, roots := h.roots.map (cw went), old := e, eden := 2000, surv := 2600, flip := false, hash := h.hash, kept := [] }

end Go.Proofs.YtboiknllmnfipaaDoor
