import Derived.Test.YtgacacbncefeaaaGreatZMCopy5
import Derived.Test.YtgacacbncefeaaaGreatZMINew
import Derived.Test.YtgacacbncefeaaaGreatZHM
import Derived.Test.YtgacacbncefeaaaGreatZMBase
import Derived.Deep.MidRow
/- l7Word and AddRoot of the model. -/
namespace Go.Proofs.YtgacacbncefeaaaGreat
open Go.RowKit

theorem fit_even {l : List Nat} {x : Int} (h : x % 2 = 0) : fitB l x = wokB x := by
  have := wok_kind_even h
  unfold fitB
  rw [show decide (kindW x = 2) = false from this.2, show decide (kindW x = 1) = wokB x from this.1]
  simp
theorem fit_odd {l : List Nat} {x : Int} (h : ¬ x % 2 = 0) : fitB l x = (wokB x && (ints l).contains (x / 2)) := by
  have := wok_kind_odd h
  unfold fitB
  rw [show decide (kindW x = 1) = false from this.2, show decide (kindW x = 2) = wokB x from this.1]
  simp
theorem tdiv_pos {x : Int} (h : 1 ≤ x) : x.tdiv 2 = x / 2 := Int.tdiv_eq_ediv_of_nonneg (by omega)




end Go.Proofs.YtgacacbncefeaaaGreat

/- A struct is stored into a box: as one step. -/
namespace Go.Proofs.YtgacacbncefeaaaGreat
open Go.RowKit

theorem run_store_box (w : World) (t t' : TypeId) (b n : Nat) (cs : Array Value) (f : Nat → Value) (hR : w.rowIs b t' n f) (hn : cs.size = n) (hi : (Tryz.prog.info? t).map (·.size) = some n) (h1 : cs.all (·.oneCell') = true) :
    (Instr.storeAt t (.pointer (some ⟨b, 0, none⟩)) (.agg cs)).run Tryz.prog w = .ok () (w.setRow b cs) := by
  obtain ⟨cur, hb, hc, _⟩ := hR
  have hst := run_storeCells_at Tryz.prog b 0 t' cs.toList 0 cur w hb (by simp; omega) (fun v hv => by
    have q := Array.all_eq_true'.1 h1 v (by simpa using hv)
    exact q)
  have e : (cur.toList.take (0 + 0) ++ cs.toList ++ cur.toList.drop (0 + 0 + cs.toList.length)).toArray = cs := by
    rw [Nat.add_zero, List.take_zero, List.nil_append, List.drop_eq_nil_of_le (by simp; omega)]
    simp
  rw [e] at hst
  obtain ⟨i, hi', hs⟩ := Option.map_eq_some_iff.1 hi
  simp [Instr.storeAt, Instr.sureAddr, storeVar, sizeOf, typeInfo, hi', hs, hn, Value.cells, hst]

theorem row_set (w : World) (b t n : Nat) (cs : Array Value) (f : Nat → Value) (hR : w.rowIs b t n f) (hn : cs.size = n) : (w.setRow b cs).rowIs b t n (fun i => cs[i]?.getD undef) := by
  obtain ⟨cur, hb, hc, _⟩ := hR
  exact ⟨cs, setRow_heap w b cur _ t _ hb, hn, fun i hi => by
    have q : i < cs.size := by omega
    simp [q]⟩

/-- A struct goes into a box that may be written. -/
theorem store_box {ops : Array Oper} {rest : List Oper} {o : Oper} {a : Act} {Q : Exit → Act → World → Prop} (w : World) (hgd : o.guard = none) (p s : Operand) (t : TypeId)
    (ho : o.op = .store t p s) (t' : TypeId) (b n : Nat) (cs : Array Value) (f : Nat → Value) (hp : a.eval p = .pointer (some ⟨b, 0, none⟩)) (hs : a.eval s = .agg cs) (hR : w.rowIs b t' n f) (hn : cs.size = n)
    (hi : (Tryz.prog.info? t).map (·.size) = some n) (h1 : cs.all (·.oneCell') = true)
    (h : ∀ w', w'.rowIs b t' n (fun i => cs[i]?.getD undef) → w.grownBy w' (some b) → wpList Tryz.prog ops Q rest (a.put o.dst undef) w') : wpList Tryz.prog ops Q (o :: rest) a w := by
  refine wpList_plain hgd fun K hK => ?_
  have hrun := run_store_box w t t' b n cs f hR hn hi h1
  unfold Oper.wp
  simp [execOp, ho, hp, hs, hrun, Result.andThen]
  exact hK _ _ (h _ (row_set w b t' n cs f hR hn) (grown_setRow w b cs))

end Go.Proofs.YtgacacbncefeaaaGreat

/- SetRoot of the model. -/
namespace Go.Proofs.YtgacacbncefeaaaGreat
open Go.RowKit



end Go.Proofs.YtgacacbncefeaaaGreat
