import Derived.Test.YtgacacbncefeaaaGreatZMIAdd
import Derived.Test.YtgacacbncefeaaaGreatZMBase
import Derived.Test.YtgacacbncefeaaaGreatZHSpecW
/- SetRoot of the program. -/
namespace Go.Proofs.YtgacacbncefeaaaGreat
open Go.RowKit

theorem set_no {h : Hp} {i x : Int} (k : setB h i x = false) : setC h i x = zeroH := by unfold setC; rw [k]; rfl
theorem set_yes {h : Hp} {i x : Int} (k : setB h i x = true) : setC h i x = { h with roots := h.roots.set i.toNat x } := by unfold setC; rw [k]; rfl


end Go.Proofs.YtgacacbncefeaaaGreat

/- copy into a row of the call's own, as an operation of a region. -/
namespace Go.Proofs.YtgacacbncefeaaaGreat
open Go.RowKit

theorem four_ri (w : World) (a b c d : Int) : RI (w.alloc (.cells #[.int .i64 a, .int .i64 b, .int .i64 c, .int .i64 d] 2)) w.heap.size [a, b, c, d] 4 := by
  have q := row_any w #[.int .i64 a, .int .i64 b, .int .i64 c, .int .i64 d] 2
  refine ⟨_, q, by simp, fun i hi => ?_⟩
  simp only [List.length_cons, List.length_nil] at hi
  rcases i with _ | _ | _ | _ | i
  · rfl
  · rfl
  · rfl
  · rfl
  · omega
theorem exec_copy {o : Oper} (ev : Operand → Value) (w w' : World) (d s : Operand) (ho : o.op = .call { callee := .builtin .copy, args := #[d, s], argTypes := #[26, 26] }) (dv sv r : Value) (hd : ev d = dv) (hs : ev s = sv)
    (h : (Builtin.copy_ #[26, 26] o.type #[dv, sv]).run Tryz.prog w = .ok r w') : (execOp ev o).run Tryz.prog w = .ok (.value r) w' := by
  simp [execOp, ho, resolve, invoke, builtin, hd, hs, h, Result.andThen]
theorem copy_run {w : World} (ty : TypeId) (g off dLen dCap : Nat) (W : List Int) (c : Nat) (hrow : RI w g W c) (hW : off + dLen ≤ W.length) (l : List Int) (b sCap : Nat) (hsv : RI w b l sCap) (hl : l.length ≤ dLen) :
    ∃ w', (Builtin.copy_ #[26, 26] ty #[.slice (some ⟨g, off, none⟩) dLen dCap, .slice (some ⟨b, 0, none⟩) l.length sCap]).run Tryz.prog w = .ok (goInt l.length) w' ∧ RI w' g (splice W off l) c ∧ w.grownBy w' (some g) ∧ w'.heap.size = w.heap.size := by
  have hsz : (Tryz.prog.info? 2).map (·.size) = some 1 := by kernel_rfl
  obtain ⟨f, ⟨cur, hg, hcs, hcf⟩, hN, e⟩ := hrow
  have hcl := icells_length l
  have hr := run_copy_row (P := Tryz.prog) w 26 26 ty 2 g off dLen dCap ⟨b, 0, none⟩ l.length sCap cur 2 (icells l) Tryz.underlying26 hsz hg (by rw [hcl]; exact (Nat.min_eq_left hl).symm) (fun j v hj => ?_) (by omega) (fun v hv => ?_)
  · rw [hcl] at hr
    have R := set_row_ri (w := w) (g := g) (off := off) (W := W) (l := l) hg (by omega) (fun i hi => by rw [hcf i (by omega), e i hi]) (by omega)
    rw [hcl, hcs] at R
    rw [List.append_assoc] at hr
    exact ⟨_, hr, R, grown_setRow w g _, by simp [World.setRow]⟩
  · have hj' : j < l.length := by
      rcases Nat.lt_or_ge j l.length with k | k
      · exact k
      · rw [List.getElem?_eq_none (by omega)] at hj; cases hj
    have hv : v = .int .i64 (l.getD j 0) := by
      simp [icells, hj'] at hj
      rw [← hj]
      simp [hj']
    rw [hv, ← hsv.cell hj']
    unfold Addr.add
    split
    · subst j; rfl
    · simp
  · obtain ⟨z, _, rfl⟩ := List.mem_map.1 hv
    rfl

theorem ws_ri {w : World} {g c : Nat} {W : List Int} (h : RI w g W c) : WS w g 0 W := fun i hi => by rw [Nat.zero_add]; exact h.cell hi
/-- copy of whatever numbers into a row. -/
theorem copy_run' {w : World} (ty : TypeId) (g off dLen dCap : Nat) (W : List Int) (c : Nat) (hrow : RI w g W c) (hW : off + dLen ≤ W.length) (l : List Int) (sp : Option Addr) (n sCap : Nat) (hn : n = l.length) (hsv : IR w (.slice sp n sCap) l) (hl : l.length ≤ dLen) :
    ∃ w', (Builtin.copy_ #[26, 26] ty #[.slice (some ⟨g, off, none⟩) dLen dCap, .slice sp n sCap]).run Tryz.prog w = .ok (goInt l.length) w' ∧ RI w' g (splice W off l) c ∧ w.grownBy w' (some g) ∧ w'.heap.size = w.heap.size := by
  subst hn
  have hsz : (Tryz.prog.info? 2).map (·.size) = some 1 := by kernel_rfl
  by_cases h0 : l.length = 0
  · obtain rfl : l = [] := List.eq_nil_of_length_eq_zero h0
    have hr := run_copy_none (P := Tryz.prog) w 26 26 ty 2 (some ⟨g, off, none⟩) sp dLen dCap 0 sCap Tryz.underlying26 hsz (by simp)
    refine ⟨w, hr, ?_, ⟨rfl, rfl, rfl, Nat.le_refl _, fun _ _ _ => rfl⟩, rfl⟩
    rw [show splice W off [] = W from by simp [splice]]
    exact hrow
  · obtain ⟨ao, cap, e1, _, hc⟩ := hsv
    simp only [Value.slice.injEq, true_and] at e1
    obtain ⟨rfl, rfl⟩ := e1
    obtain ⟨b, q, rfl, _⟩ := hc 0 (by omega)
    obtain ⟨f, ⟨cur, hg, hcs, hcf⟩, hN, e⟩ := hrow
    have hcl := icells_length l
    have hr := run_copy_row (P := Tryz.prog) w 26 26 ty 2 g off dLen dCap ⟨b, q, none⟩ l.length sCap cur 2 (icells l) Tryz.underlying26 hsz hg (by rw [hcl]; exact (Nat.min_eq_left hl).symm) (fun j v hj => ?_) (by omega) (fun v hv => ?_)
    · rw [hcl] at hr
      have R := set_row_ri (w := w) (g := g) (off := off) (W := W) (l := l) hg (by omega) (fun i hi => by rw [hcf i (by omega), e i hi]) (by omega)
      rw [hcl, hcs] at R
      rw [List.append_assoc] at hr
      exact ⟨_, hr, R, grown_setRow w g _, by simp [World.setRow]⟩
    · have hj' : j < l.length := by
        rcases Nat.lt_or_ge j l.length with k | k
        · exact k
        · rw [List.getElem?_eq_none (by omega)] at hj; cases hj
      obtain ⟨b', q', e2, hcell⟩ := hc j hj'
      simp only [Option.some.injEq, Addr.mk.injEq, and_true] at e2
      obtain ⟨rfl, rfl⟩ := e2
      have hv : v = .int .i64 (l.getD j 0) := by
        simp [icells, hj'] at hj
        rw [← hj]
        simp [hj']
      rw [hv, ← hcell]
      unfold Addr.add
      split
      · subst j; rfl
      · simp
    · obtain ⟨z, _, rfl⟩ := List.mem_map.1 hv
      rfl

end Go.Proofs.YtgacacbncefeaaaGreat
