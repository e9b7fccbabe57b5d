/- Boxes by their block: a struct is stored as one step. -/
import Derived.Test.YtgacacbncefeaaaGreatZQBase
import Derived.Deep.MidRow
import Derived.Laws.CopyRow
namespace Go.Proofs.YtgacacbncefeaaaGreat
open Go.RowKit

theorem Bk.store {w : World} {b : Nat} {C : Array Value} {t' : TypeId} (h : Bk w b C t') (t : TypeId) (cs : Array Value) (hn : cs.size = C.size) (hi : (Tryz.prog.info? t).map (·.size) = some C.size) (h1 : cs.all (·.oneCell') = true) :
    ∃ w', (Instr.storeAt t (.pointer (some ⟨b, 0, none⟩)) (.agg cs)).run Tryz.prog w = .ok () w' ∧ Bk w' b cs t' ∧ w.grownBy w' (some b) ∧ w'.heap.size = w.heap.size := by
  refine ⟨w.setRow b cs, ?_, setRow_heap w b C _ t' _ h, ?_, ?_⟩
  · have hst := run_storeCells_at Tryz.prog b 0 t' cs.toList 0 C w h (by simp; omega) (fun v hv => by
      have q := Array.all_eq_true'.1 h1 v (by simpa using hv)
      exact q)
    have e : (C.toList.take (0 + 0) ++ cs.toList ++ C.toList.drop (0 + 0 + cs.toList.length)).toArray = cs := by
      rw [Nat.add_zero, List.take_zero, List.nil_append, List.drop_eq_nil_of_le (by simp; omega)]
      simp
    rw [e] at hst
    obtain ⟨i, hi', hs⟩ := Option.map_eq_some_iff.1 hi
    simp [Instr.storeAt, Instr.sureAddr, storeVar, sizeOf, typeInfo, hi', hs, hn, Value.cells, hst]
  · refine ⟨rfl, rfl, rfl, ?_, fun i _ hne => ?_⟩
    · simp [World.setRow]
    · simp [World.setRow, Array.getElem?_modify]
      intro e
      exact absurd (by rw [e]) hne
  · simp [World.setRow]
theorem Bk.off {w w' : World} {b : Nat} {C : Array Value} {t : TypeId} {row : Option Nat} (h : Bk w b C t) (hg : w.grownBy w' row) (hne : some b ≠ row) : Bk w' b C t := (hg.block b h.lt hne).trans h
theorem Bk.drew {w : World} {b : Nat} {C : Array Value} {t : TypeId} (h : Bk w b C t) : Bk w.drew b C t := h
theorem exec_storeQ {o : Oper} {T : Array Value} {D : List Deferred} {W W' : World} {p s : Operand} {t : TypeId} {a u : Value} (ho : o.op = .store t p s) (hp : Act.eval ⟨T, D⟩ p = a) (hs : Act.eval ⟨T, D⟩ s = u) (hrun : (Instr.storeAt t a u).run Tryz.prog W = .ok () W') :
    (execOp (Act.eval ⟨T, D⟩) o).run Tryz.prog W = .ok .skip W' := by
  simp [execOp, ho, hp, hs, hrun]
theorem bel_set {w W W' : World} {b : Nat} (h : Below w.heap.size w W) (hg : W.grownBy W' (some b)) (hb : w.heap.size ≤ b) : Below w.heap.size w W' := Below.grown h hg h.size (fun k hk => by cases hk; exact hb)

end Go.Proofs.YtgacacbncefeaaaGreat
