import Derived.Test.YtfcidgnjanidoaaZHBase
import Derived.Test.YtfcidgnjanidoaaZR5
import Derived.Maps.OwnSet
import Derived.Maps.OwnOps
import Derived.Maps.AppendAt
/- Worlds that have grown outside of some blocks. -/
namespace Go.Proofs.Ytfcidgnjanidoaa
open Go.RowKit

/-- w' is w with new blocks, and with writes to blocks of S alone. -/
structure Grew (w w' : World) (S : Nat → Prop) : Prop where
  os : w'.os = w.os
  tape : w'.tape = w.tape
  output : w'.output = w.output
  size : w.heap.size ≤ w'.heap.size
  block : ∀ k, k < w.heap.size → ¬ S k → w'.heap[k]? = w.heap[k]?
theorem Grew.refl (w : World) (S : Nat → Prop) : Grew w w S := ⟨rfl, rfl, rfl, Nat.le_refl _, fun _ _ _ => rfl⟩
theorem Grew.mono {w w' : World} {S T : Nat → Prop} (h : Grew w w' S) (k : ∀ b, b < w.heap.size → S b → T b) : Grew w w' T :=
  ⟨h.os, h.tape, h.output, h.size, fun b hb hn => h.block b hb (fun s => hn (k b hb s))⟩
theorem Grew.trans {a b c : World} {S : Nat → Prop} (h : Grew a b S) (k : Grew b c S) : Grew a c S :=
  ⟨k.os.trans h.os, k.tape.trans h.tape, k.output.trans h.output, Nat.le_trans h.size k.size, fun i hi hn => (k.block i (Nat.lt_of_lt_of_le hi h.size) hn).trans (h.block i hi hn)⟩
theorem Grew.trans' {a b c : World} {S T : Nat → Prop} (h : Grew a b S) (k : Grew b c T) (hT : ∀ x, T x → S x ∨ a.heap.size ≤ x) : Grew a c S :=
  ⟨k.os.trans h.os, k.tape.trans h.tape, k.output.trans h.output, Nat.le_trans h.size k.size, fun i hi hn => (k.block i (Nat.lt_of_lt_of_le hi h.size) (fun q => (hT i q).elim hn (fun z => by omega))).trans (h.block i hi hn)⟩
theorem Grew.new {w w' : World} (h : Below w.heap.size w w') (S : Nat → Prop) : Grew w w' S := ⟨h.os, h.tape, h.output, h.size, fun k hk _ => h.block k hk⟩
theorem Grew.above {w w' : World} {B : Nat} (h : Below B w w') : Grew w w' (fun k => B ≤ k) := ⟨h.os, h.tape, h.output, h.size, fun k _ hn => h.block k (Nat.lt_of_not_le hn)⟩
theorem Grew.grown {w w' : World} {row : Option Nat} (h : w.grownBy w' row) : Grew w w' (fun k => row = some k) := ⟨h.os, h.tape, h.output, h.size, fun k hk hn => h.block k hk (fun e => hn e.symm)⟩
theorem Grew.set (w : World) (b i : Nat) (v : Value) : Grew w (w.setCell ⟨b, i, none⟩ v) (fun k => k = b) :=
  ⟨rfl, rfl, rfl, by simp [World.setCell], fun k _ hn => Below.heap_setCell _ _ _ _ hn⟩
theorem Grew.below {w w' : World} {S : Nat → Prop} {B : Nat} (h : Grew w w' S) (hB : B ≤ w.heap.size) (k : ∀ b, b < w.heap.size → S b → B ≤ b) : Below B w w' :=
  ⟨h.os, h.tape, h.output, h.size, fun b hb => h.block b (by omega) (fun s => by have := k b (by omega) s; omega)⟩
theorem Grew.drew {w w' : World} {S : Nat → Prop} (h : Grew w w' S) : Grew w w'.drew S := ⟨h.os, h.tape, h.output, h.size, h.block⟩
theorem Grew.cell {w w' : World} {S : Nat → Prop} {b o : Nat} {v : Value} (h : Grew w w' S) (hc : w.cell? ⟨b, o, none⟩ = some v) (hn : ¬ S b) : w'.cell? ⟨b, o, none⟩ = some v :=
  (World.cell?_of_block (w := w) (h.block b (World.block_lt_of_cell? _ _ hc) hn)).trans hc
theorem Grew.row {w w' : World} {S : Nat → Prop} {b t n : Nat} {f : Nat → Value} (h : Grew w w' S) (hr : w.rowIs b t n f) (hn : ¬ S b) : w'.rowIs b t n f := hr.of_block (h.block b hr.lt hn)
theorem Grew.own {w w' : World} {S : Nat → Prop} {B e size n : Nat} {v : Value} {xs : List Value} (h : Grew w w' S) (ho : w.ownsRow B e size v n xs) (hn : ∀ b, v.ownBlock = some b → ¬ S b) : w'.ownsRow B e size v n xs := by
  have hlt := ho.lt
  obtain ⟨hl, ho⟩ := ho
  refine ⟨hl, ?_⟩
  rcases ho with ho | ⟨g, cap, cur, rfl, hB, hh, h1⟩
  · exact .inl ho
  · exact .inr ⟨g, cap, cur, rfl, hB, (h.block g (hlt g rfl).2 (hn g rfl)).trans hh, h1⟩
/-- The cells of a slice that has some lie in this block. -/
def inB (v : Value) (b : Nat) : Prop := ∃ o n c, v = .slice (some ⟨b, o, none⟩) n c ∧ 0 < n
theorem IR.inlt {w : World} {v : Value} {l : List Int} (h : IR w v l) {b : Nat} (k : inB v b) : b < w.heap.size := by
  obtain ⟨o, n, c, e, hn⟩ := k
  exact h.lt _ _ _ e hn
theorem Grew.ir {w w' : World} {S : Nat → Prop} {v : Value} {l : List Int} (h : Grew w w' S) (hv : IR w v l) (hn : ∀ b, inB v b → ¬ S b) : IR w' v l := by
  obtain ⟨ao, cap, rfl, hle, hc⟩ := hv
  refine ⟨ao, cap, rfl, hle, fun i hi => ?_⟩
  obtain ⟨b, o, rfl, q⟩ := hc i hi
  exact ⟨b, o, rfl, h.cell q (hn b ⟨o, _, _, rfl, by omega⟩)⟩
theorem inB_own {w : World} {B e size n b : Nat} {v : Value} {xs : List Value} (h : w.ownsRow B e size v n xs) (k : inB v b) : v.ownBlock = some b := by
  obtain ⟨o, m, c, rfl, hm⟩ := k
  rcases h.2 with ⟨e0, _⟩ | ⟨g, cap, cur, e0, _⟩
  · cases e0
  · injection e0 with e1
    injection e1 with e1
    injection e1 with e1
    subst e1
    rfl
theorem own_shape {w : World} {B e size n : Nat} {v : Value} {xs : List Value} (h : w.ownsRow B e size v n xs) : ∃ ao cap, v = .slice ao n cap := by
  rcases h.2 with ⟨rfl, rfl⟩ | ⟨g, cap, cur, rfl, _⟩
  · exact ⟨none, 0, rfl⟩
  · exact ⟨_, cap, rfl⟩

/-! Maps -/
theorem gown_mono {w : World} {B B' e size n : Nat} {v : Value} {xs : List Value} (h : w.ownsRow B e size v n xs) (hB : B' ≤ B) : w.ownsRow B' e size v n xs := by
  obtain ⟨hl, h⟩ := h
  refine ⟨hl, ?_⟩
  rcases h with h | ⟨g, cap, cur, hv, hb, hh⟩
  · exact .inl h
  · exact .inr ⟨g, cap, cur, hv, Nat.le_trans hB hb, hh⟩

end Go.Proofs.Ytfcidgnjanidoaa

/- Worlds that have grown outside of some blocks; maps from numbers to numbers; appending, with where the new row lies. -/
namespace Go.Proofs.Ytfcidgnjanidoaa
open Go.RowKit Go.Maps

theorem keyL : Keyed Try.prog 2 := int_keyed Try.underlying2
theorem zeroI (w : World) : (zeroValue 2).run Try.prog w = .ok (.int .i64 0) w := by kernel_rfl
theorem wf64 {k : Int} (h : In64 k) : (Lit.int .i64 k).wf = true := WalkArith.wf_i64 (by unfold In64 at h; omega)
/-- Block b is a map of at most n entries that gives f. -/
def MP (w : World) (b n : Nat) (f : Int → Option Int) : Prop :=
  ∃ D : DataW Unit, w.ownsMap Try.prog 2 (plainElem Try.prog 2) b n D ∧ ∀ k, In64 k → Maps.has D (.int .i64 k) = (f k).isSome ∧ D.atKey (.int .i64 k) (.lit (.int .i64 0)) = .lit (.int .i64 ((f k).getD 0))
theorem MP.lt {w : World} {b n : Nat} {f : Int → Option Int} (h : MP w b n f) : b < w.heap.size := by
  obtain ⟨D, h, _⟩ := h
  exact h.lt
theorem MP.made (w : World) : MP (w.alloc (.map #[] 0)) w.heap.size 0 (fun _ => none) :=
  ⟨.map [], World.ownsMap_made _ _ _ _, fun _ _ => ⟨rfl, rfl⟩⟩
theorem Grew.mp {w w' : World} {S : Nat → Prop} {b n : Nat} {f : Int → Option Int} (h : Grew w w' S) (hm : MP w b n f) (hn : ¬ S b) : MP w' b n f := by
  have hlt := hm.lt
  obtain ⟨D, ⟨es, clock, hb, r⟩, q⟩ := hm
  exact ⟨D, ⟨es, clock, (h.block b hlt hn).trans hb, r⟩, q⟩
theorem MP.later {w w' : World} {b n : Nat} {f : Int → Option Int} (hm : MP w b n f) (h : Below w.heap.size w w') : MP w' b n f := (Grew.new h (fun _ => False)).mp hm (fun x => x)
def putF (f : Int → Option Int) (k v : Int) : Int → Option Int := fun j => if j = k then some v else f j

section
variable {ops : Array Oper} {rest : List Oper} {o : Oper} {a : Act} {Q : Exit → Act → World → Prop}

theorem look_ok (w : World) (hg : o.guard = none) (m x : Operand) (hop : o.op = Op.lookup 46 m x true) (b n : Nat) (f : Int → Option Int) (hm : a.eval m = .map (some b)) (hM : MP w b n f)
    (k : Int) (hx : a.eval x = .int .i64 k) (hk : In64 k) (h : wpList Try.prog ops Q rest (a.put o.dst (.tuple #[.int .i64 ((f k).getD 0), .bool (f k).isSome])) w) : wpList Try.prog ops Q (o :: rest) a w := by
  obtain ⟨D, hown, hD⟩ := hM
  refine wpList_lookup_own_ok_int w hg m x 46 hop 2 2 .i64 keyL Try.underlying46 Try.underlying2 (zeroI _) b n D hm hown _ _ hx (keyOf_int_mk Try.underlying2 (wf64 hk)) (fun c hc _ => ?_)
  obtain ⟨h1, h2⟩ := hD k hk
  rw [h2] at hc
  simp only [DataW.lit.injEq, Lit.int.injEq, true_and] at hc
  rw [h1, ← hc]
  exact h
theorem look_up (w : World) (hg : o.guard = none) (m x : Operand) (hop : o.op = Op.lookup 46 m x false) (b n : Nat) (f : Int → Option Int) (hm : a.eval m = .map (some b)) (hM : MP w b n f)
    (k : Int) (hx : a.eval x = .int .i64 k) (hk : In64 k) (h : wpList Try.prog ops Q rest (a.put o.dst (.int .i64 ((f k).getD 0))) w) : wpList Try.prog ops Q (o :: rest) a w := by
  obtain ⟨D, hown, hD⟩ := hM
  refine wpList_lookup_own_int w hg m x 46 hop 2 2 .i64 keyL Try.underlying46 Try.underlying2 (zeroI _) b n D hm hown _ _ hx (keyOf_int_mk Try.underlying2 (wf64 hk)) (fun c hc _ => ?_)
  obtain ⟨h1, h2⟩ := hD k hk
  rw [h2] at hc
  simp only [DataW.lit.injEq, Lit.int.injEq, true_and] at hc
  rw [← hc]
  exact h
end
theorem MP.update {w : World} {b n : Nat} {f : Int → Option Int} (hM : MP w b n f) (hn : n ≤ 1000000000000) (k v : Int) (hk : In64 k) (hv : In64 v) :
    ∃ w', (Instr.mapUpdate 46 (.map (some b)) (.int .i64 k) (.int .i64 v)).run Try.prog w = .ok () w' ∧ MP w' b (n + 1) (putF f k v) ∧ w.grownBy w' (some b) := by
  obtain ⟨D, hown, hD⟩ := hM
  have hI : IsMap D := hown.isMap
  obtain ⟨w', hr, ho, hg⟩ := hown.update keyL Try.underlying46 (by unfold maxLen; omega) (keyOf_int_mk Try.underlying2 (wf64 hk)) (plainElem_int Try.underlying2 (wf64 hv))
  refine ⟨w', hr, ⟨_, ho, fun j hj => ?_⟩, hg⟩
  unfold putF
  by_cases e : j = k
  · subst e
    rw [if_pos rfl, has_put_same (k := .int .i64 j) hI trivial, atKey_put_same (k := .int .i64 j) hI trivial]
    exact ⟨rfl, rfl⟩
  · have ne : (Lit.int .i64 j) ≠ .int .i64 k := fun q => e (by simpa using q)
    rw [if_neg e, has_put_other ne, atKey_put_other ne]
    exact hD j hj

/-! Appending one number, and where the new row lies. -/
theorem app_at {ops : Array Oper} {rest : List Oper} {o : Oper} {a : Act} {Q : Exit → Act → World → Prop} (w : World) (hgd : o.guard = none) (s x : Operand)
    (ho : o.op = .call { callee := .builtin .append, args := #[s, x], argTypes := #[22, 22] }) (B : Nat) (v : Value) (n : Nat) (xs : List Value) (hs : a.eval s = v) (hown : w.ownsRow B 2 1 v n xs)
    (g c : Nat) (z : Int) (hx : a.eval x = .slice (some ⟨g, 0, none⟩) 1 c) (hc : w.cell? ⟨g, 0, none⟩ = some (.int .i64 z)) (hn : n ≤ 1000000000000) (hB : B ≤ w.heap.size)
    (h : ∀ v' w', w'.ownsRow B 2 1 v' (n + 1) (xs ++ [.int .i64 z]) → w.grownBy w' v.ownBlock → (v'.ownBlock = v.ownBlock ∨ v'.ownBlock = some w.heap.size) → wpList Try.prog ops Q rest (a.put o.dst v') w') : wpList Try.prog ops Q (o :: rest) a w := by
  obtain ⟨i, hi, hzz⟩ := Option.map_eq_some_iff.1 Try.infoI
  simp only [Prod.mk.injEq] at hzz
  obtain ⟨hz, hsz, hby⟩ := hzz
  refine wpList_append_own_at w hgd s x 22 ho B 2 i _ 1 8 Try.underlying22 hi hz hsz hby rfl (by omega) v n xs hs hown ⟨g, 0, none⟩ 1 c [.int .i64 z] hx rfl (fun j u hj => ?_) (fun u hu => ?_) (by unfold maxLen; omega) (by omega) hB (fun v' w' h1 h2 _ h4 => h v' w' h1 h2 h4)
  · match j, hj with
    | 0, hj => simp at hj; subst hj; simpa [Addr.add] using hc
  · simp at hu; subst hu; rfl

end Go.Proofs.Ytfcidgnjanidoaa
