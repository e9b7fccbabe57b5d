/- Boxes that are written in part. -/
import Derived.Test.YtgacacbncefeaaaGreatZKCode
import Derived.Test.YtgacacbncefeaaaGreatZQBox
namespace Go.Proofs.YtgacacbncefeaaaGreat
open Go.RowKit

theorem Bk.part {w : World} {b : Nat} {C : Array Value} {t' : TypeId} (h : Bk w b C t') (t : TypeId) (o : Nat) (cs C' : Array Value) (hn : o + cs.size ≤ C.size) (hi : (Tryz.prog.info? t).map (·.size) = some cs.size) (h1 : cs.all (·.oneCell') = true) (hC : C' = (C.toList.take o ++ cs.toList ++ C.toList.drop (o + cs.size)).toArray) :
    ∃ w', (Instr.storeAt t (.pointer (some ⟨b, o, none⟩)) (.agg cs)).run Tryz.prog w = .ok () w' ∧ Bk w' b C' t' ∧ w.grownBy w' (some b) ∧ w'.heap.size = w.heap.size := by
  subst hC
  refine ⟨w.setRow b (C.toList.take o ++ cs.toList ++ C.toList.drop (o + cs.size)).toArray, ?_, setRow_heap w b C _ t' _ h, ?_, ?_⟩
  · have hst := run_storeCells_at Tryz.prog b o t' cs.toList 0 C w h (by simp; omega) (fun v hv => by
      have q := Array.all_eq_true'.1 h1 v (by simpa using hv)
      exact q)
    have e : (C.toList.take (o + 0) ++ cs.toList ++ C.toList.drop (o + 0 + cs.toList.length)).toArray = (C.toList.take o ++ cs.toList ++ C.toList.drop (o + cs.size)).toArray := by simp
    rw [e] at hst
    obtain ⟨i, hi', hs⟩ := Option.map_eq_some_iff.1 hi
    simp [Instr.storeAt, Instr.sureAddr, storeVar, sizeOf, typeInfo, hi', hs, Value.cells] at hst ⊢
    exact hst
  · refine ⟨rfl, rfl, rfl, ?_, fun i _ hne => ?_⟩
    · simp [World.setRow]
    · simp [World.setRow, Array.getElem?_modify]
      intro e
      exact absurd (by rw [e]) hne
  · simp [World.setRow]
theorem Bk.setc {w : World} {b : Nat} {C : Array Value} {t : TypeId} (h : Bk w b C t) (j : Nat) (v : Value) (C' : Array Value) (hC : C' = C.setIfInBounds j v) : Bk (w.setCell ⟨b, j, none⟩ v) b C' t := by
  subst hC
  unfold Bk
  rw [setCell_eq_setRow w b j C t (0, 0) v h]
  exact setRow_heap w b C _ t _ h
theorem Bk.setOther {w : World} {b g j : Nat} {C : Array Value} {t : TypeId} (h : Bk w b C t) (hb : b ≠ g) (v : Value) : Bk (w.setCell ⟨g, j, none⟩ v) b C t := (Below.heap_setCell _ _ _ _ hb).trans h
theorem wp_storeK {ops : Array Oper} {rest : List Oper} {o : Oper} {a : Act} {Q : Exit → Act → World → Prop} {w w' : World} {t : TypeId} {Av u : Value} (hrun : (Instr.storeAt t Av u).run Tryz.prog w = .ok () w') (hg : o.guard = none) (p s : Operand) (hop : o.op = Op.store t p s) (hp : a.eval p = Av) (hs : a.eval s = u) (hd : o.dst = none)
    (h : wpList Tryz.prog ops Q rest a w') : wpList Tryz.prog ops Q (o :: rest) a w := by
  refine wpList_plain hg fun K hK => ?_
  unfold Oper.wp
  simp [execOp, hop, hp, hs, hrun, Result.andThen]
  refine hK _ _ ?_
  rw [hd]
  exact h

end Go.Proofs.YtgacacbncefeaaaGreat
