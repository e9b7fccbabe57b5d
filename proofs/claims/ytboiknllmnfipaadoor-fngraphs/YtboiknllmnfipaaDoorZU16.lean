
import Derived.Test.YtboiknllmnfipaaDoorZU4
import Derived.Test.YtboiknllmnfipaaDoorZU5
import Derived.Test.YtboiknllmnfipaaDoorZGShS
import Derived.Test.YtboiknllmnfipaaDoorZU12
/- follow, tourOf and renamed of the program: the objects in the order in which they are come to, their numbers in a map. -/
namespace Go.Proofs.YtboiknllmnfipaaDoor
open Go.RowKit Go.Maps

/-- The number of an object among those that were found. -/
def numF (o : List Nat) (k : Int) : Option Int := if 0 ≤ k ∧ k.toNat ∈ o then some ((o.idxOf k.toNat : Nat) : Int) else none
theorem numF_new {o : List Nat} {a : Nat} (h : a ∉ o) : putF (numF o) (a : Int) (o.length : Int) = numF (o ++ [a]) := by
  funext j
  unfold putF numF
  by_cases e : j = (a : Int)
  · subst e
    rw [if_pos rfl, if_pos ⟨by omega, by simp⟩, Int.toNat_natCast, List.idxOf_append, if_neg h]
    simp
  · rw [if_neg e]
    by_cases hj : 0 ≤ j
    · by_cases m : j.toNat ∈ o
      · rw [if_pos ⟨hj, m⟩, if_pos ⟨hj, by simp [m]⟩, List.idxOf_append, if_pos m]
      · rw [if_neg (fun q => m q.2), if_neg (fun q => m (by
          have := q.2
          rw [List.mem_append, List.mem_singleton] at this
          rcases this with k | k
          · exact k
          · exact absurd (show j = (a : Int) by omega) e))]
    · rw [if_neg (fun q => hj q.1), if_neg (fun q => hj q.1)]
/-- A tour: block T holds the objects that were found and the map of their numbers. -/
structure Tour (B : Nat) (w : World) (T M : Nat) (n : Nat) (o : List Nat) (ov : Value) : Prop where
  bx : w.rowIs T 0 2 (fun i => if i = 0 then ov else .map (some M))
  ob : w.ownsRow B 2 1 ov o.length (icells (ints o))
  mp : MP w M n (numF o)
  tl : B ≤ T ∧ B ≤ M ∧ M ≠ T
  ap : ov.ownBlock ≠ some T ∧ ov.ownBlock ≠ some M
theorem Tour.grew {B : Nat} {w w' : World} {T M n : Nat} {o : List Nat} {ov : Value} {S : Nat → Prop} (h : Tour B w T M n o ov) (g : Grew w w' S) (hs : ∀ b, S b → b ≠ T ∧ b ≠ M ∧ ov.ownBlock ≠ some b) : Tour B w' T M n o ov :=
  ⟨g.row h.bx (fun q => (hs _ q).1 rfl), g.own h.ob (fun b e q => (hs b q).2.2 e), g.mp h.mp (fun q => (hs _ q).2.1 rfl), h.tl, h.ap⟩
theorem Tour.later {B : Nat} {w w' : World} {T M n : Nat} {o : List Nat} {ov : Value} (h : Tour B w T M n o ov) (g : Below w.heap.size w w') : Tour B w' T M n o ov := h.grew (S := fun _ => False) (Grew.new g _) (fun _ q => q.elim)
theorem Tour.put {B : Nat} {w w1 w2 w3 : World} {T M n a : Nat} {o : List Nat} {ov ov1 : Value} (h : Tour B w T M n o ov) (g1 : w.grownBy w1 (some M)) (m1 : MP w1 M (n + 1) (putF (numF o) (a : Int) (o.length : Int))) (ha : a ∉ o)
    (al : Below w1.heap.size w1 w2) (ho : w3.ownsRow B 2 1 ov1 (o.length + 1) (icells (ints o) ++ [.int .i64 (a : Int)])) (g3 : w2.grownBy w3 ov.ownBlock) (hl : ov1.ownBlock = ov.ownBlock ∨ ov1.ownBlock = some w2.heap.size) :
    Tour B (w3.setCell ⟨T, 0, none⟩ ov1) T M (n + 1) (o ++ [a]) ov1 ∧ Grew w (w3.setCell ⟨T, 0, none⟩ ov1) (fun k => k = T ∨ k = M ∨ ov.ownBlock = some k) ∧ (∀ b, ov1.ownBlock = some b → ov.ownBlock = some b ∨ w.heap.size ≤ b) := by
  have G1 : Grew w w1 (fun k => k = T ∨ k = M ∨ ov.ownBlock = some k) := (Grew.grown g1).mono fun b _ e => .inr (.inl (by cases e; rfl))
  have G2 : Grew w1 w3 (fun k => ov.ownBlock = some k) := (Grew.new al _).trans (Grew.grown g3)
  have G4 := Grew.set w3 T 0 ov1
  have tlt := h.bx.lt
  have mlt := h.mp.lt
  have sz1 := g1.size
  have sz2 := al.size
  have hl2 : ∀ b, ov1.ownBlock = some b → ov.ownBlock = some b ∨ w.heap.size ≤ b := fun b e => by
    rcases hl with k | k
    · exact .inl (by rw [← k]; exact e)
    · rw [k] at e; simp at e; exact .inr (by omega)
  have nT : ov1.ownBlock ≠ some T := fun e => by
    rcases hl2 T e with k | k
    · exact h.ap.1 k
    · omega
  have nM : ov1.ownBlock ≠ some M := fun e => by
    rcases hl2 M e with k | k
    · exact h.ap.2 k
    · omega
  have hne := h.tl.2.2
  have b1 := (Grew.grown g1).row h.bx (fun e => hne (by simpa using e))
  have b3 := G2.row b1 h.ap.1
  refine ⟨⟨?_, ?_, ?_, h.tl, nT, nM⟩, (G1.trans (G2.mono fun b _ e => .inr (.inr e))).trans (G4.mono fun b _ e => .inl e), hl2⟩
  · refine (b3.set 0 ov1).congr fun i _ => ?_
    by_cases e : i = 0 <;> simp [e]
  · have := G4.own ho (fun b e q => nT (by rw [e, q]))
    simpa [icells, ints] using this
  · have := G4.mp (G2.mp m1 h.ap.2) hne
    rwa [numF_new ha] at this

end Go.Proofs.YtboiknllmnfipaaDoor

/- tourOf of the program: all objects that are reached, in the order in which they are come to. -/
namespace Go.Proofs.YtboiknllmnfipaaDoor
open Go.RowKit


end Go.Proofs.YtboiknllmnfipaaDoor

/- Reached of the model and of the program. -/
namespace Go.Proofs.YtboiknllmnfipaaDoor
open Go.RowKit

end Go.Proofs.YtboiknllmnfipaaDoor

/- Shape and Reached of the model. -/
namespace Go.Proofs.YtboiknllmnfipaaDoor
open Go.RowKit

theorem shape_c (h : Hp) : shC h = if okC h = true then shP h else gr0 := rfl
/-- A result cell of a graph, two blocks above. -/
theorem gres (w : World) (C : Array Value) (t : TypeId) : ((w.alloc (.cells C t)).alloc (.cells #[.slice none 0 0, .slice none 0 0, .int .i64 0] 27)).rowIs (w.heap.size + 1) 27 3 (grF (.slice none 0 0) (.slice none 0 0) 0) := by
  have q := graphC (w.alloc (.cells C t)) (.slice none 0 0) (.slice none 0 0) 0 27
  rwa [World.size_alloc] at q
end Go.Proofs.YtboiknllmnfipaaDoor
