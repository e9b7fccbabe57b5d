/- The scavenger's loops in plain words. -/
import Derived.Test.YtfcidgnjanidoaaZVPlain
namespace Go.Proofs.Ytfcidgnjanidoaa
open Go.RowKit

/-- All that was moved has fields that fit the heap of before. -/
def QA (l : List Nat) (s : SV) : Prop := ∀ d, d ∈ s.q → ∀ k, d + 4 ≤ k → k < nx s.W d → fitB l (gw s.W k) = true
/-- The same from the i-th on, of the i-th one from f on. -/
def QC (l : List Nat) (s : SV) (i f : Nat) : Prop := ∀ j, i ≤ j → j < s.q.length → ∀ k, s.q.getD j 0 + 4 ≤ k → (j = i → f ≤ k) → k < nx s.W (s.q.getD j 0) → fitB l (gw s.W k) = true
def lowAs (h : Hp) (s : SV) (f : Nat) : Prop := ∀ j, f ≤ j → j < h.old.toNat → gw s.W j = gw h.words j

theorem getD_mem {q : List Nat} {i : Nat} (h : i < q.length) : q.getD i 0 ∈ q := by simp [h]

theorem Mvd.in {h : Hp} {l : List Nat} {s s' : SV} (S : SI h l s) (M : Mvd h l s s') {d : Nat} (hd : d ∈ s.q) {k : Nat} (h1 : d ≤ k) (h2 : k < nx s.W d) : gw s'.W k = gw s.W k := by
  have q := S.ar d hd
  have t3 := tb_two h
  have := S.old1
  have := S.to1
  have := S.to0
  refine M.out k ?_ ?_ <;> omega
theorem Mvd.nxe {h : Hp} {l : List Nat} {s s' : SV} (S : SI h l s) (M : Mvd h l s s') {d : Nat} (hd : d ∈ s.q) : nx s'.W d = nx s.W d := by
  have e : nx s.W d = d + 4 + (gw s.W d).toNat := rfl
  unfold nx
  rw [M.in S hd (Nat.le_refl _) (by omega)]
theorem Mvd.low {h : Hp} {l : List Nat} {s s' : SV} (S : SI h l s) (M : Mvd h l s s') {f : Nat} (L : lowAs h s f) : lowAs h s' f := fun j h1 h2 => by
  have := S.old0
  have := S.to0
  have t3 := tb_two h
  have o0 : s.old ≤ 2000 := S.old1
  rw [M.out j (by omega) (by omega)]
  exact L j h1 h2
theorem Mvd.len {h : Hp} {l : List Nat} {s s' : SV} (M : Mvd h l s s') : s.q.length ≤ s'.q.length ∧ ∀ j, j < s.q.length → s'.q.getD j 0 = s.q.getD j 0 := by
  rcases M.q with e | ⟨d, e, _⟩
  · rw [e]
    exact ⟨Nat.le_refl _, fun _ _ => rfl⟩
  · rw [e]
    refine ⟨by simp, fun j hj => ?_⟩
    simp only [List.getD_eq_getElem?_getD]
    rw [List.getElem?_append_left hj]
theorem Mvd.qa {h : Hp} {l : List Nat} {s s' : SV} (S : SI h l s) (M : Mvd h l s s') (A : QA l s) : QA l s' := by
  intro d hd k k1 k2
  have old : d ∈ s.q → fitB l (gw s'.W k) = true := fun hd => by
    rw [M.nxe S hd] at k2
    rw [M.in S hd (by omega) k2]
    exact A d hd k k1 k2
  rcases M.q with e | ⟨d', e, F⟩
  · rw [e] at hd
    exact old hd
  · rw [e, List.mem_append, List.mem_singleton] at hd
    rcases hd with hd | rfl
    · exact old hd
    · exact F k k1 k2
theorem Mvd.qc {h : Hp} {l : List Nat} {s s' : SV} (S : SI h l s) (M : Mvd h l s s') {i f : Nat} (A : QC l s i f) : QC l s' i f := by
  intro j ij jl k k1 kf k2
  by_cases hj : j < s.q.length
  · rw [M.len.2 j hj] at k1 k2
    have hd := getD_mem hj
    rw [M.nxe S hd] at k2
    rw [M.in S hd (by omega) k2]
    exact A j ij hj k k1 kf k2
  · rcases M.q with e | ⟨d', e, F⟩
    · rw [e] at jl
      exact absurd jl hj
    · have jj : j = s.q.length := by
        rw [e] at jl
        simp at jl
        omega
      have ed : s'.q.getD j 0 = d' := by
        rw [e, jj]
        simp
      rw [ed] at k1 k2
      exact F k k1 k2

/-- One field: it is moved, and set. -/
def fd1 (lim : Nat) (t : SV) (f : Nat) : SV := { (mv lim t (gw t.W f)).1 with W := (mv lim t (gw t.W f)).1.W.set f (mv lim t (gw t.W f)).2 }
def fdS (lim : Nat) (s : SV) (f : Nat) : Nat → SV
  | 0 => s
  | k + 1 => fd1 lim (fdS lim s f k) (f + k)

theorem fd_low {h : Hp} {l : List Nat} (R : RightAt h l) {s : SV} (S : SI h l s) {f : Nat} {a : Nat} (ha : a ∈ l) (a2 : a < 2000) (f1 : a + 4 ≤ f) (f2 : f < nx h.words a) (L : lowAs h s f) (A : QA l s) :
    SI h l (fd1 (tb h + 300) s f) ∧ lowAs h (fd1 (tb h + 300) s f) (f + 1) ∧ QA l (fd1 (tb h + 300) s f) := by
  have ff := R.2.2.2.2.2.2.2.1 a ha f f1 f2
  have hf : f < h.old.toNat := by have := old_area R ha a2; omega
  have e := L f (Nat.le_refl _) hf
  have m := mv_keep R S (x := gw s.W f) (by rw [e]; exact ff)
  have ss := set_keep R m.1.si (f := f) (y := (mv (tb h + 300) s (gw s.W f)).2) (.inl ⟨a, ha, a2, f1, f2⟩) m.2
  have L1 := m.1.low S L
  have A1 := m.1.qa S A
  refine ⟨ss.1, fun j h1 h2 => ?_, fun d hd k k1 k2 => ?_⟩
  · show gw ((mv (tb h + 300) s (gw s.W f)).1.W.set f (mv (tb h + 300) s (gw s.W f)).2) j = _
    rw [ss.2.1, if_neg (by omega)]
    exact L1 j (by omega) h2
  · have hd' : d ∈ (mv (tb h + 300) s (gw s.W f)).1.q := hd
    have k2' : k < nx ((mv (tb h + 300) s (gw s.W f)).1.W.set f (mv (tb h + 300) s (gw s.W f)).2) d := k2
    rw [ss.2.2 d hd'] at k2'
    show fitB l (gw ((mv (tb h + 300) s (gw s.W f)).1.W.set f (mv (tb h + 300) s (gw s.W f)).2) k) = true
    have := m.1.si.ar d hd'
    have t3 := tb_two h
    have ho : h.old.toNat ≤ 2000 := by have := S.old0; have := S.old1; omega
    rw [ss.2.1, if_neg (by omega)]
    exact A1 d hd' k k1 k2'

/-- Does an address lie in what is left? -/
def frB (h : Hp) (a : Int) : Bool := decide (2000 ≤ a ∧ a < 2600) || decide ((survB h.flip : Int) ≤ a ∧ a < (survB h.flip : Int) + 300)
def qd1 (h : Hp) (t : SV) (f : Nat) : SV := if (!decide (gw t.W f % 2 = 0) && frB h (gw t.W f / 2)) = true then fd1 (tb h + 300) t f else t
def qdS (h : Hp) (s : SV) (f : Nat) : Nat → SV
  | 0 => s
  | k + 1 => qd1 h (qdS h s f k) (f + k)

theorem qd_keep {h : Hp} {l : List Nat} (R : RightAt h l) {s : SV} (S : SI h l s) {i f : Nat} (hi : i < s.q.length) (h1 : s.q.getD i 0 + 4 ≤ f) (h2 : f < nx s.W (s.q.getD i 0)) (C : QC l s i f) :
    SI h l (qd1 h s f) ∧ QC l (qd1 h s f) i (f + 1) ∧ s.q.length ≤ (qd1 h s f).q.length ∧ (qd1 h s f).q.getD i 0 = s.q.getD i 0 ∧ nx (qd1 h s f).W (s.q.getD i 0) = nx s.W (s.q.getD i 0) := by
  have ff := C i (Nat.le_refl _) hi f h1 (fun _ => Nat.le_refl _) h2
  unfold qd1
  by_cases g : (!decide (gw s.W f % 2 = 0) && frB h (gw s.W f / 2)) = true
  · rw [if_pos g]
    have m := mv_keep R S (x := gw s.W f) ff
    have hd := getD_mem hi
    have len := m.1.len
    have hd1 : s.q.getD i 0 ∈ (mv (tb h + 300) s (gw s.W f)).1.q := by
      rw [← len.2 i hi]
      exact getD_mem (by omega)
    have n1 := m.1.nxe S hd
    have ss := set_keep R m.1.si (f := f) (y := (mv (tb h + 300) s (gw s.W f)).2) (.inr ⟨_, hd1, h1, by rw [n1]; exact h2⟩) m.2
    have C1 := m.1.qc S C
    refine ⟨ss.1, fun j ij jl k k1 kf k2 => ?_, len.1, len.2 i hi, ?_⟩
    · have jl' : j < (mv (tb h + 300) s (gw s.W f)).1.q.length := jl
      have hj := getD_mem jl'
      have k2' : k < nx ((mv (tb h + 300) s (gw s.W f)).1.W.set f (mv (tb h + 300) s (gw s.W f)).2) ((mv (tb h + 300) s (gw s.W f)).1.q.getD j 0) := k2
      rw [ss.2.2 _ hj] at k2'
      have k1' : (mv (tb h + 300) s (gw s.W f)).1.q.getD j 0 + 4 ≤ k := k1
      show fitB l (gw ((mv (tb h + 300) s (gw s.W f)).1.W.set f (mv (tb h + 300) s (gw s.W f)).2) k) = true
      have ne : k ≠ f := by
        intro e
        subst e
        by_cases ji : j = i
        · have := kf ji
          omega
        · have P := List.pairwise_iff_getElem.1 m.1.si.dis i j (by omega) jl' (by omega)
          have ei : (mv (tb h + 300) s (gw s.W k)).1.q[i]'(by omega) = s.q.getD i 0 := by
            rw [← len.2 i hi]
            simp [List.getD_eq_getElem?_getD, show i < (mv (tb h + 300) s (gw s.W k)).1.q.length from by omega]
          have ej : (mv (tb h + 300) s (gw s.W k)).1.q[j]'jl' = (mv (tb h + 300) s (gw s.W k)).1.q.getD j 0 := by
            simp [List.getD_eq_getElem?_getD, jl']
          rw [ei, ej, n1] at P
          omega
      rw [ss.2.1, if_neg ne]
      exact C1 j ij jl' k k1' (fun e => by have := kf e; omega) k2'
    · show nx ((mv (tb h + 300) s (gw s.W f)).1.W.set f (mv (tb h + 300) s (gw s.W f)).2) _ = _
      rw [ss.2.2 _ hd1, n1]
  · rw [if_neg g]
    exact ⟨S, fun j ij jl k k1 kf k2 => C j ij jl k k1 (fun e => by have := kf e; omega) k2, Nat.le_refl _, rfl, rfl⟩

end Go.Proofs.Ytfcidgnjanidoaa
