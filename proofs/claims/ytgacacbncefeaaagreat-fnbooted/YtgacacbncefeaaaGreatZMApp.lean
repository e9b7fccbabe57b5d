/- Appending numbers to a row of the call's own, and where the new row lies. -/
import Derived.Test.YtgacacbncefeaaaGreatZMBase
import Derived.Maps.AppendAt
namespace Go.Proofs.YtgacacbncefeaaaGreat
open Go.RowKit

theorem run_append_zero (ty : TypeId) (g cap n sc : Nat) (sp : Option Addr) (hle : n ≤ cap) (w : World) :
    (Builtin.append_ #[26, 26] ty #[.slice (some ⟨g, 0, none⟩) n cap, .slice sp 0 sc]).run Tryz.prog w = .ok (.slice (some ⟨g, 0, none⟩) n cap) w := by
  obtain ⟨i, hi, hzz⟩ := Option.map_eq_some_iff.1 Tryz.infoI
  have hu : Tryz.prog.underlying 26 = some (.slice 2) := Tryz.underlying26
  have hl : ∀ (x : Addr), (loadCells x 0).run Tryz.prog w = .ok #[] w := fun x => by simpa using run_loadCells_list (P := Tryz.prog) w x [] (by simp)
  cases sp <;> simp [Builtin.append_, run_underlying hu, Builtin.lenOf, Builtin.firstCells, sizeOf, typeInfo, hi, hle, hl, storeCells]

/-- append of whatever numbers to a row of the call's own. -/
theorem app_ri {ops : Array Oper} {rest : List Oper} {o : Oper} {a : Act} {Q : Exit → Act → World → Prop} (w : World) (hgd : o.guard = none) (s x : Operand)
    (ho : o.op = .call { callee := .builtin .append, args := #[s, x], argTypes := #[26, 26] })
    (g cap n : Nat) (m : List Int) (hs : a.eval s = .slice (some ⟨g, 0, none⟩) n cap) (hm : n = m.length) (hR : RI w g m cap) (hmm : m.length ≤ 1000000000000) (hcap : cap ≤ maxLen)
    (sp : Option Addr) (sc k : Nat) (l : List Int) (hx : a.eval x = .slice sp k sc) (hk : k = l.length) (hI : IR w (.slice sp k sc) l) (hl : l.length ≤ 1000000000000)
    (h : ∀ g' c' w', RI w' g' (m ++ l) c' → w.grownBy w' (some g) → (g' = g ∨ (g' = w.heap.size ∧ w.heap.size < w'.heap.size)) → c' ≤ maxLen → wpList Tryz.prog ops Q rest (a.put o.dst (.slice (some ⟨g', 0, none⟩) (n + k) c')) w') :
    wpList Tryz.prog ops Q (o :: rest) a w := by
  subst hm
  subst hk
  by_cases h0 : l.length = 0
  · obtain rfl : l = [] := List.eq_nil_of_length_eq_zero h0
    refine wpList_plain hgd fun K hK => ?_
    have hrun := run_append_zero o.type g cap m.length sc sp hR.le w
    unfold Oper.wp
    simp only [List.length_nil] at hx
    simp [execOp, ho, resolve, invoke, builtin, hs, hx, hrun, Result.andThen]
    exact hK _ _ (h g cap w (by rw [List.append_nil]; exact hR) ⟨rfl, rfl, rfl, Nat.le_refl _, fun _ _ _ => rfl⟩ (.inl rfl) hcap)
  · obtain ⟨i, hi, hzz⟩ := Option.map_eq_some_iff.1 Tryz.infoI
    simp only [Prod.mk.injEq] at hzz
    obtain ⟨hz, hsz, hby⟩ := hzz
    obtain ⟨ao, cp, e1, _, hc⟩ := hI
    simp only [Value.slice.injEq, true_and] at e1
    obtain ⟨rfl, rfl⟩ := e1
    obtain ⟨b, q, rfl, _⟩ := hc 0 (by omega)
    have hle := hR.le
    have hlt := hR.lt
    refine wpList_append_own_at w hgd s x 26 ho 0 2 i _ 1 8 Tryz.underlying26 hi hz hsz hby rfl (by omega) _ m.length (icells m) hs (hR.owns (Nat.zero_le _) hcap) ⟨b, q, none⟩ l.length sc (icells l) hx (by simp [icells]) (fun j u hj => ?_) (fun u hu => ?_) (by unfold maxLen; omega) (by omega) (Nat.zero_le _) (fun v' w' h1 h2 h3 h4 => ?_)
    · have hj' : j < l.length := by
        rcases Nat.lt_or_ge j l.length with k | k
        · exact k
        · rw [List.getElem?_eq_none (by rw [icells_length]; exact k)] at hj; cases hj
      obtain ⟨b', q', e2, hcell⟩ := hc j hj'
      simp only [Option.some.injEq, Addr.mk.injEq, and_true] at e2
      obtain ⟨rfl, rfl⟩ := e2
      have hu : u = .int .i64 (l.getD j 0) := by
        simp [icells, hj'] at hj
        rw [← hj]
        simp [hj']
      rw [hu, ← hcell]
      unfold Addr.add
      split
      · subst j; rfl
      · simp
    · obtain ⟨z, _, rfl⟩ := List.mem_map.1 hu
      rfl
    · have e3 : icells m ++ icells l = icells (m ++ l) := by simp [icells]
      have e4 : m.length + l.length = (m ++ l).length := by simp
      rw [e3, e4] at h1
      obtain ⟨g', c', rfl⟩ : ∃ g' c', v' = .slice (some ⟨g', 0, none⟩) (m ++ l).length c' := by
        rcases h1.2 with ⟨_, e⟩ | ⟨g', c', cur, e, _⟩
        · rw [← e4] at e; omega
        · exact ⟨g', c', e⟩
      have hn := (RI.of_owns h1).1
      have hw := h g' c' w' hn h2 (by
        rcases h4 with e | e
        · left; simpa [Value.ownBlock] using e
        · right
          have e' : g' = w.heap.size := by simpa [Value.ownBlock] using e
          exact ⟨e', by have := hn.lt; omega⟩) (RI.of_owns h1).2.2
      rw [e4] at hw
      exact hw

theorem empty_ri (w : World) : RI (w.alloc (.cells #[] 2)) w.heap.size [] 0 := by
  refine ⟨fun _ => undef, ?_, Nat.le_refl _, fun i hi => absurd hi (Nat.not_lt_zero i)⟩
  have q := World.rowIs_alloc w #[] 2 (fun _ => undef) (fun i hi => absurd hi (Nat.not_lt_zero i))
  exact q

end Go.Proofs.YtgacacbncefeaaaGreat
