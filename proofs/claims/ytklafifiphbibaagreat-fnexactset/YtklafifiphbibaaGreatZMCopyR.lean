/- copy of numbers into a row of the call's own, as a run and as a step of a region. -/
import Derived.Test.YtklafifiphbibaaGreatZMBase
import Derived.Deep.RegionLaw
namespace Go.Proofs.YtklafifiphbibaaGreat
open Go.RowKit

/-- copy of numbers into a row of the call's own, as a run. -/
theorem run_copy_ints (w : World) (ty : TypeId) (g off dLen dCap : Nat) (W : List Int) (c : Nat) (hrow : RI w g W c) (hW : off + dLen ≤ W.length)
    (l : List Int) (sp : Option Addr) (sCap : Nat) (hsv : IR w (.slice sp l.length sCap) l) (hl : l.length ≤ dLen) :
    ∃ w', (Builtin.copy_ #[24, 24] ty #[.slice (some ⟨g, off, none⟩) dLen dCap, .slice sp l.length sCap]).run Tryz.prog w = .ok (goInt l.length) w' ∧ RI w' g (splice W off l) c ∧ w.grownBy w' (some g) := by
  have hsz : (Tryz.prog.info? 2).map (·.size) = some 1 := by kernel_rfl
  by_cases h0 : l.length = 0
  · obtain rfl : l = [] := List.eq_nil_of_length_eq_zero h0
    refine ⟨w, run_copy_none (P := Tryz.prog) w 24 24 ty 2 _ sp dLen dCap _ sCap Tryz.underlying24 hsz (by simp), ?_, ⟨rfl, rfl, rfl, Nat.le_refl _, fun _ _ _ => rfl⟩⟩
    rw [show splice W off [] = W from by simp [splice]]
    exact hrow
  · obtain ⟨f, ⟨cur, hg, hcs, hcf⟩, hN, e⟩ := hrow
    obtain ⟨ao, cap, e1, _, hc⟩ := hsv
    simp only [Value.slice.injEq, true_and] at e1
    obtain ⟨rfl, rfl⟩ := e1
    obtain ⟨b, q, rfl, _⟩ := hc 0 (by omega)
    have hcl := icells_length l
    have R := set_row_ri (w := w) (g := g) (off := off) (W := W) (l := l) hg (by omega) (fun i hi => by rw [hcf i (by omega), e i hi]) (by omega)
    rw [hcl, hcs] at R
    have run := run_copy_row (P := Tryz.prog) w 24 24 ty 2 g off dLen dCap ⟨b, q, none⟩ l.length sCap cur 2 (icells l) Tryz.underlying24 hsz hg (by rw [hcl]; exact (Nat.min_eq_left hl).symm) (fun j v hj => by
      have hj' : j < l.length := by
        rcases Nat.lt_or_ge j l.length with k | k
        · exact k
        · rw [List.getElem?_eq_none (by omega)] at hj; cases hj
      obtain ⟨b', q', e2, hcell⟩ := hc j hj'
      simp only [Option.some.injEq, Addr.mk.injEq, and_true] at e2
      obtain ⟨rfl, rfl⟩ := e2
      have hv : v = .int .i64 (l.getD j 0) := by
        simp [icells, hj'] at hj
        rw [← hj]
        simp [hj']
      rw [hv, ← hcell]
      unfold Addr.add
      split
      · subst j; rfl
      · simp) (by omega) (fun v hv => by
      obtain ⟨z, _, rfl⟩ := List.mem_map.1 hv
      rfl)
    rw [hcl] at run
    rw [← List.append_assoc] at R
    exact ⟨_, run, R, grown_setRow w g _⟩

/-- The same as one step of a region that draws its order. -/
theorem step_copy_ints {ops : Array Oper} {o : Oper} {a : Act} {w : World} {K : Act → World → Prop} {Q : Exit → Act → World → Prop} {E : Prop} (hgd : o.guard = none) (d s : Operand)
    (ho : o.op = .call { callee := .builtin .copy, args := #[d, s], argTypes := #[24, 24] })
    (g off dLen dCap : Nat) (hd : a.eval d = .slice (some ⟨g, off, none⟩) dLen dCap) (W : List Int) (c : Nat) (hrow : RI w g W c) (hW : off + dLen ≤ W.length)
    (l : List Int) (sp : Option Addr) (n sCap : Nat) (hn : n = l.length) (hs : a.eval s = .slice sp n sCap) (hsv : IR w (.slice sp n sCap) l) (hl : n ≤ dLen)
    (h : ∀ w', RI w' g (splice W off l) c → w.grownBy w' (some g) → K (a.put o.dst (goInt l.length)) w') :
    if Region.wanted o (yielded ops a.tmps) = true then Oper.wp Tryz.prog o a w K Q else E := by
  subst hn
  have hw : Region.wanted o (yielded ops a.tmps) = true := by simp [Region.wanted, hgd]
  rw [if_pos hw]
  obtain ⟨w', run, R, G⟩ := run_copy_ints w o.type g off dLen dCap W c hrow hW l sp sCap hsv hl
  unfold Oper.wp
  simp [execOp, ho, resolve, invoke, builtin, hd, hs, run, Result.andThen]
  exact h w' R G

theorem RI.cut {w : World} {g c cap i : Nat} {k : List Int} (h : RI w g k c) (hc : k.length - i ≤ cap) : IR w (.slice (some ⟨g, i, none⟩) (k.length - i) cap) (k.drop i) := by
  refine ⟨_, cap, by rw [List.length_drop], by rw [List.length_drop]; exact hc, fun j hj => ⟨g, i, rfl, ?_⟩⟩
  rw [List.length_drop] at hj
  rw [h.cell (i := i + j) (by omega)]
  simp [List.getD_eq_getElem?_getD]

end Go.Proofs.YtklafifiphbibaaGreat
