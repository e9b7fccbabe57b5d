
import Derived.Test.YtboiknllmnfipaaDoorZU6
import Derived.Deep.MidRow
import Derived.Test.YtboiknllmnfipaaDoorZU12
import Derived.Test.YtboiknllmnfipaaDoorZU11
import Derived.Test.YtboiknllmnfipaaDoorZHSpecW
/- A struct is stored into a box: as one step. -/
namespace Go.Proofs.YtboiknllmnfipaaDoor
open Go.RowKit

theorem run_store_box (w : World) (t t' : TypeId) (b n : Nat) (cs : Array Value) (f : Nat → Value) (hR : w.rowIs b t' n f) (hn : cs.size = n) (hi : (Tryd.prog.info? t).map (·.size) = some n) (h1 : cs.all (·.oneCell') = true) :
    (Instr.storeAt t (.pointer (some ⟨b, 0, none⟩)) (.agg cs)).run Tryd.prog w = .ok () (w.setRow b cs) := by
  obtain ⟨cur, hb, hc, _⟩ := hR
  have hst := run_storeCells_at Tryd.prog b 0 t' cs.toList 0 cur w hb (by simp; omega) (fun v hv => by
    have q := Array.all_eq_true'.1 h1 v (by simpa using hv)
    exact q)
  have e : (cur.toList.take (0 + 0) ++ cs.toList ++ cur.toList.drop (0 + 0 + cs.toList.length)).toArray = cs := by
    rw [Nat.add_zero, List.take_zero, List.nil_append, List.drop_eq_nil_of_le (by simp; omega)]
    simp
  rw [e] at hst
  obtain ⟨i, hi', hs⟩ := Option.map_eq_some_iff.1 hi
  simp [Instr.storeAt, Instr.sureAddr, storeVar, sizeOf, typeInfo, hi', hs, hn, Value.cells, hst]

theorem row_set (w : World) (b t n : Nat) (cs : Array Value) (f : Nat → Value) (hR : w.rowIs b t n f) (hn : cs.size = n) : (w.setRow b cs).rowIs b t n (fun i => cs[i]?.getD undef) := by
  obtain ⟨cur, hb, hc, _⟩ := hR
  exact ⟨cs, setRow_heap w b cur _ t _ hb, hn, fun i hi => by
    have q : i < cs.size := by omega
    simp [q]⟩

/-- A struct goes into a box that may be written. -/
theorem store_box {ops : Array Oper} {rest : List Oper} {o : Oper} {a : Act} {Q : Exit → Act → World → Prop} (w : World) (hgd : o.guard = none) (p s : Operand) (t : TypeId)
    (ho : o.op = .store t p s) (t' : TypeId) (b n : Nat) (cs : Array Value) (f : Nat → Value) (hp : a.eval p = .pointer (some ⟨b, 0, none⟩)) (hs : a.eval s = .agg cs) (hR : w.rowIs b t' n f) (hn : cs.size = n)
    (hi : (Tryd.prog.info? t).map (·.size) = some n) (h1 : cs.all (·.oneCell') = true)
    (h : ∀ w', w'.rowIs b t' n (fun i => cs[i]?.getD undef) → w.grownBy w' (some b) → wpList Tryd.prog ops Q rest (a.put o.dst undef) w') : wpList Tryd.prog ops Q (o :: rest) a w := by
  refine wpList_plain hgd fun K hK => ?_
  have hrun := run_store_box w t t' b n cs f hR hn hi h1
  unfold Oper.wp
  simp [execOp, ho, hp, hs, hrun, Result.andThen]
  exact hK _ _ (h _ (row_set w b t' n cs f hR hn) (grown_setRow w b cs))

end Go.Proofs.YtboiknllmnfipaaDoor

/- The program's draft of a heap, and back. -/
namespace Go.Proofs.YtboiknllmnfipaaDoor
open Go.RowKit


/-- What draftOf answers. -/
def DrOut (h : Hp) (B : Nat) (x : Ending) (w' : World) : Prop :=
  (okC h = true ∧ ∃ g1 g2 g3 oa oc, x = .returned (.tuple #[.agg #[.slice (some ⟨g1, 0, none⟩) h.words.length h.words.length, .slice oa (obC h).length oc, .slice (some ⟨g2, 0, none⟩) h.roots.length h.roots.length, .int .i64 h.old, .int .i64 h.eden, .int .i64 h.surv, .bool h.flip, .int .i64 h.hash, .slice (some ⟨g3, 0, none⟩) h.kept.length h.kept.length], .bool true]) ∧
    (RI w' g1 h.words h.words.length ∧ RI w' g2 h.roots h.roots.length ∧ RI w' g3 h.kept h.kept.length) ∧ (B ≤ g1 ∧ g1 < g2 ∧ g2 < g3) ∧ IR w' (.slice oa (obC h).length oc) (ints (obC h))) ∨
  (okC h = false ∧ x = .returned (.tuple #[.agg #[.slice none 0 0, .slice none 0 0, .slice none 0 0, .int .i64 0, .int .i64 0, .int .i64 0, .bool false, .int .i64 0, .slice none 0 0], .bool false]))

/-- What is read there lies in older blocks. -/
def Far (v : Value) (g : Nat) : Prop := ∀ (ad : Addr) (n c : Nat), v = .slice (some ad) n c → 0 < n → ad.block < g
def Low (v : Value) (B : Nat) : Prop := ∀ (ad : Addr) (n c : Nat), v = .slice (some ad) n c → 0 < n → B ≤ ad.block
def DrOut2 (h : Hp) (B : Nat) (x : Ending) (w' : World) : Prop :=
  (okC h = true ∧ ∃ g1 g2 g3 oa oc, x = .returned (.tuple #[.agg #[.slice (some ⟨g1, 0, none⟩) h.words.length h.words.length, .slice oa (obC h).length oc, .slice (some ⟨g2, 0, none⟩) h.roots.length h.roots.length, .int .i64 h.old, .int .i64 h.eden, .int .i64 h.surv, .bool h.flip, .int .i64 h.hash, .slice (some ⟨g3, 0, none⟩) h.kept.length h.kept.length], .bool true]) ∧
    (RI w' g1 h.words h.words.length ∧ RI w' g2 h.roots h.roots.length ∧ RI w' g3 h.kept h.kept.length) ∧ (B ≤ g1 ∧ g1 < g2 ∧ g2 < g3) ∧ IR w' (.slice oa (obC h).length oc) (ints (obC h)) ∧ Far (.slice oa (obC h).length oc) g1 ∧ Low (.slice oa (obC h).length oc) B) ∨
  (okC h = false ∧ x = .returned (.tuple #[.agg #[.slice none 0 0, .slice none 0 0, .slice none 0 0, .int .i64 0, .int .i64 0, .int .i64 0, .bool false, .int .i64 0, .slice none 0 0], .bool false]))
theorem DrOut2.one {h : Hp} {B : Nat} {x : Ending} {w' : World} (k : DrOut2 h B x w') : DrOut h B x w' := by
  rcases k with ⟨hk, g1, g2, g3, oa, oc, e, q, l, io, _⟩ | k
  · exact .inl ⟨hk, g1, g2, g3, oa, oc, e, q, l, io⟩
  · exact .inr k
theorem IR.setOther {w : World} {v : Value} {l : List Int} {b i : Nat} (h : IR w v l) (hb : ∀ a n c, v = .slice (some a) n c → 0 < n → a.block ≠ b) (u : Value) : IR (w.setCell ⟨b, i, none⟩ u) v l :=
  h.keep' fun a n c e hn => Below.heap_setCell _ _ _ _ (hb a n c e hn)

end Go.Proofs.YtboiknllmnfipaaDoor

/- The program's draft: its words that fit, its heap. -/
namespace Go.Proofs.YtboiknllmnfipaaDoor
open Go.RowKit




end Go.Proofs.YtboiknllmnfipaaDoor

/- AddRoot of the program. -/
namespace Go.Proofs.YtboiknllmnfipaaDoor
open Go.RowKit

theorem add_no {h : Hp} {x : Int} (k : addB h x = false) : addC h x = zeroH := by unfold addC; rw [k]; rfl
theorem add_yes {h : Hp} {x : Int} (k : addB h x = true) : addC h x = { h with roots := h.roots ++ [x] } := by unfold addC; rw [k]; rfl
theorem row_one (w : World) (x : Int) : RI (w.alloc (.cells #[.int .i64 x] 2)) w.heap.size [x] 1 := by
  refine ⟨fun _ => .int .i64 x, World.rowIs_alloc w #[.int .i64 x] 2 _ (fun i hi => ?_), by simp, fun i hi => ?_⟩
  · have : i = 0 := by simp at hi; omega
    subst this
    rfl
  · have : i = 0 := by simp at hi; omega
    subst this
    rfl


end Go.Proofs.YtboiknllmnfipaaDoor

/- SetRoot of the program. -/
namespace Go.Proofs.YtboiknllmnfipaaDoor
open Go.RowKit

theorem set_no {h : Hp} {i x : Int} (k : setB h i x = false) : setC h i x = zeroH := by unfold setC; rw [k]; rfl
theorem set_yes {h : Hp} {i x : Int} (k : setB h i x = true) : setC h i x = { h with roots := h.roots.set i.toNat x } := by unfold setC; rw [k]; rfl


end Go.Proofs.YtboiknllmnfipaaDoor

/- copy into a row of the call's own, as an operation of a region. -/
namespace Go.Proofs.YtboiknllmnfipaaDoor
open Go.RowKit

end Go.Proofs.YtboiknllmnfipaaDoor

/- An object's header is laid down by the program. -/
namespace Go.Proofs.YtboiknllmnfipaaDoor
open Go.RowKit


end Go.Proofs.YtboiknllmnfipaaDoor

/- New of the program. -/
namespace Go.Proofs.YtboiknllmnfipaaDoor
open Go.RowKit

theorem new_no {h : Hp} {k n : Int} (q : newB h k n = false) : newC h k n = zeroH := by unfold newC; rw [q]; rfl
theorem new_w0 {h : Hp} {k n : Int} (q : newB h k n = false) : newW' h k n = 0 := by unfold newW'; rw [q]; rfl
theorem new_yes {h : Hp} {k n : Int} (q : newB h k n = true) : newC h k n = newHp h k n := by unfold newC; rw [q]; rfl
theorem new_w1 {h : Hp} {k n : Int} (q : newB h k n = true) : newW' h k n = 2 * h.eden + 1 := by unfold newW'; rw [q]; rfl
end Go.Proofs.YtboiknllmnfipaaDoor
