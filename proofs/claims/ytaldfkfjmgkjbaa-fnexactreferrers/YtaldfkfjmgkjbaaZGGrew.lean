/- Worlds that have grown outside of some blocks. -/
import Derived.Test.YtaldfkfjmgkjbaaZHBase
namespace Go.Proofs.Ytaldfkfjmgkjbaa
open Go.RowKit

/-- w' is w with new blocks, and with writes to blocks of S alone. -/
structure Grew (w w' : World) (S : Nat → Prop) : Prop where
  os : w'.os = w.os
  tape : w'.tape = w.tape
  output : w'.output = w.output
  size : w.heap.size ≤ w'.heap.size
  block : ∀ k, k < w.heap.size → ¬ S k → w'.heap[k]? = w.heap[k]?
theorem Grew.refl (w : World) (S : Nat → Prop) : Grew w w S := ⟨rfl, rfl, rfl, Nat.le_refl _, fun _ _ _ => rfl⟩
theorem Grew.mono {w w' : World} {S T : Nat → Prop} (h : Grew w w' S) (k : ∀ b, b < w.heap.size → S b → T b) : Grew w w' T :=
  ⟨h.os, h.tape, h.output, h.size, fun b hb hn => h.block b hb (fun s => hn (k b hb s))⟩
theorem Grew.trans {a b c : World} {S : Nat → Prop} (h : Grew a b S) (k : Grew b c S) : Grew a c S :=
  ⟨k.os.trans h.os, k.tape.trans h.tape, k.output.trans h.output, Nat.le_trans h.size k.size, fun i hi hn => (k.block i (Nat.lt_of_lt_of_le hi h.size) hn).trans (h.block i hi hn)⟩
theorem Grew.trans' {a b c : World} {S T : Nat → Prop} (h : Grew a b S) (k : Grew b c T) (hT : ∀ x, T x → S x ∨ a.heap.size ≤ x) : Grew a c S :=
  ⟨k.os.trans h.os, k.tape.trans h.tape, k.output.trans h.output, Nat.le_trans h.size k.size, fun i hi hn => (k.block i (Nat.lt_of_lt_of_le hi h.size) (fun q => (hT i q).elim hn (fun z => by omega))).trans (h.block i hi hn)⟩
theorem Grew.new {w w' : World} (h : Below w.heap.size w w') (S : Nat → Prop) : Grew w w' S := ⟨h.os, h.tape, h.output, h.size, fun k hk _ => h.block k hk⟩
theorem Grew.above {w w' : World} {B : Nat} (h : Below B w w') : Grew w w' (fun k => B ≤ k) := ⟨h.os, h.tape, h.output, h.size, fun k _ hn => h.block k (Nat.lt_of_not_le hn)⟩
theorem Grew.grown {w w' : World} {row : Option Nat} (h : w.grownBy w' row) : Grew w w' (fun k => row = some k) := ⟨h.os, h.tape, h.output, h.size, fun k hk hn => h.block k hk (fun e => hn e.symm)⟩
theorem Grew.set (w : World) (b i : Nat) (v : Value) : Grew w (w.setCell ⟨b, i, none⟩ v) (fun k => k = b) :=
  ⟨rfl, rfl, rfl, by simp [World.setCell], fun k _ hn => Below.heap_setCell _ _ _ _ hn⟩
theorem Grew.below {w w' : World} {S : Nat → Prop} {B : Nat} (h : Grew w w' S) (hB : B ≤ w.heap.size) (k : ∀ b, b < w.heap.size → S b → B ≤ b) : Below B w w' :=
  ⟨h.os, h.tape, h.output, h.size, fun b hb => h.block b (by omega) (fun s => by have := k b (by omega) s; omega)⟩
theorem Grew.drew {w w' : World} {S : Nat → Prop} (h : Grew w w' S) : Grew w w'.drew S := ⟨h.os, h.tape, h.output, h.size, h.block⟩
theorem Grew.cell {w w' : World} {S : Nat → Prop} {b o : Nat} {v : Value} (h : Grew w w' S) (hc : w.cell? ⟨b, o, none⟩ = some v) (hn : ¬ S b) : w'.cell? ⟨b, o, none⟩ = some v :=
  (World.cell?_of_block (w := w) (h.block b (World.block_lt_of_cell? _ _ hc) hn)).trans hc
theorem Grew.row {w w' : World} {S : Nat → Prop} {b t n : Nat} {f : Nat → Value} (h : Grew w w' S) (hr : w.rowIs b t n f) (hn : ¬ S b) : w'.rowIs b t n f := hr.of_block (h.block b hr.lt hn)
theorem Grew.own {w w' : World} {S : Nat → Prop} {B e size n : Nat} {v : Value} {xs : List Value} (h : Grew w w' S) (ho : w.ownsRow B e size v n xs) (hn : ∀ b, v.ownBlock = some b → ¬ S b) : w'.ownsRow B e size v n xs := by
  have hlt := ho.lt
  obtain ⟨hl, ho⟩ := ho
  refine ⟨hl, ?_⟩
  rcases ho with ho | ⟨g, cap, cur, rfl, hB, hh, h1⟩
  · exact .inl ho
  · exact .inr ⟨g, cap, cur, rfl, hB, (h.block g (hlt g rfl).2 (hn g rfl)).trans hh, h1⟩
/-- The cells of a slice that has some lie in this block. -/
def inB (v : Value) (b : Nat) : Prop := ∃ o n c, v = .slice (some ⟨b, o, none⟩) n c ∧ 0 < n
theorem IR.inlt {w : World} {v : Value} {l : List Int} (h : IR w v l) {b : Nat} (k : inB v b) : b < w.heap.size := by
  obtain ⟨o, n, c, e, hn⟩ := k
  exact h.lt _ _ _ e hn
theorem Grew.ir {w w' : World} {S : Nat → Prop} {v : Value} {l : List Int} (h : Grew w w' S) (hv : IR w v l) (hn : ∀ b, inB v b → ¬ S b) : IR w' v l := by
  obtain ⟨ao, cap, rfl, hle, hc⟩ := hv
  refine ⟨ao, cap, rfl, hle, fun i hi => ?_⟩
  obtain ⟨b, o, rfl, q⟩ := hc i hi
  exact ⟨b, o, rfl, h.cell q (hn b ⟨o, _, _, rfl, by omega⟩)⟩
theorem inB_own {w : World} {B e size n b : Nat} {v : Value} {xs : List Value} (h : w.ownsRow B e size v n xs) (k : inB v b) : v.ownBlock = some b := by
  obtain ⟨o, m, c, rfl, hm⟩ := k
  rcases h.2 with ⟨e0, _⟩ | ⟨g, cap, cur, e0, _⟩
  · cases e0
  · injection e0 with e1
    injection e1 with e1
    injection e1 with e1
    subst e1
    rfl
theorem own_shape {w : World} {B e size n : Nat} {v : Value} {xs : List Value} (h : w.ownsRow B e size v n xs) : ∃ ao cap, v = .slice ao n cap := by
  rcases h.2 with ⟨rfl, rfl⟩ | ⟨g, cap, cur, rfl, _⟩
  · exact ⟨none, 0, rfl⟩
  · exact ⟨_, cap, rfl⟩

/-! Maps -/
theorem gown_mono {w : World} {B B' e size n : Nat} {v : Value} {xs : List Value} (h : w.ownsRow B e size v n xs) (hB : B' ≤ B) : w.ownsRow B' e size v n xs := by
  obtain ⟨hl, h⟩ := h
  refine ⟨hl, ?_⟩
  rcases h with h | ⟨g, cap, cur, hv, hb, hh⟩
  · exact .inl h
  · exact .inr ⟨g, cap, cur, hv, Nat.le_trans hB hb, hh⟩

end Go.Proofs.Ytaldfkfjmgkjbaa
