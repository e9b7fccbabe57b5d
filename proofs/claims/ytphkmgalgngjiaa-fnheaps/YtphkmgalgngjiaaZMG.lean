import Derived.Test.YtphkmgalgngjiaaZMBase
import Derived.Test.YtphkmgalgngjiaaZHFnH
import Derived.Test.YtphkmgalgngjiaaZMB
import Derived.Test.YtphkmgalgngjiaaZMPlain
import Derived.Test.YtphkmgalgngjiaaZMApp
/- The program's draft of a heap, and back. -/
namespace Go.Proofs.Ytphkmgalgngjiaa
open Go.RowKit


/-- What draftOf answers. -/
def DrOut (h : Hp) (B : Nat) (x : Ending) (w' : World) : Prop :=
  (okC h = true ∧ ∃ g1 g2 g3 oa oc, x = .returned (.tuple #[.agg #[.slice (some ⟨g1, 0, none⟩) h.words.length h.words.length, .slice oa (obC h).length oc, .slice (some ⟨g2, 0, none⟩) h.roots.length h.roots.length, .int .i64 h.old, .int .i64 h.eden, .int .i64 h.surv, .bool h.flip, .int .i64 h.hash, .slice (some ⟨g3, 0, none⟩) h.kept.length h.kept.length], .bool true]) ∧
    (RI w' g1 h.words h.words.length ∧ RI w' g2 h.roots h.roots.length ∧ RI w' g3 h.kept h.kept.length) ∧ (B ≤ g1 ∧ g1 < g2 ∧ g2 < g3) ∧ IR w' (.slice oa (obC h).length oc) (ints (obC h))) ∨
  (okC h = false ∧ x = .returned (.tuple #[.agg #[.slice none 0 0, .slice none 0 0, .slice none 0 0, .int .i64 0, .int .i64 0, .int .i64 0, .bool false, .int .i64 0, .slice none 0 0], .bool false]))

/-- What is read there lies in older blocks. -/
def Far (v : Value) (g : Nat) : Prop := ∀ (ad : Addr) (n c : Nat), v = .slice (some ad) n c → 0 < n → ad.block < g
def DrOut2 (h : Hp) (B : Nat) (x : Ending) (w' : World) : Prop :=
  (okC h = true ∧ ∃ g1 g2 g3 oa oc, x = .returned (.tuple #[.agg #[.slice (some ⟨g1, 0, none⟩) h.words.length h.words.length, .slice oa (obC h).length oc, .slice (some ⟨g2, 0, none⟩) h.roots.length h.roots.length, .int .i64 h.old, .int .i64 h.eden, .int .i64 h.surv, .bool h.flip, .int .i64 h.hash, .slice (some ⟨g3, 0, none⟩) h.kept.length h.kept.length], .bool true]) ∧
    (RI w' g1 h.words h.words.length ∧ RI w' g2 h.roots h.roots.length ∧ RI w' g3 h.kept h.kept.length) ∧ (B ≤ g1 ∧ g1 < g2 ∧ g2 < g3) ∧ IR w' (.slice oa (obC h).length oc) (ints (obC h)) ∧ Far (.slice oa (obC h).length oc) g1) ∨
  (okC h = false ∧ x = .returned (.tuple #[.agg #[.slice none 0 0, .slice none 0 0, .slice none 0 0, .int .i64 0, .int .i64 0, .int .i64 0, .bool false, .int .i64 0, .slice none 0 0], .bool false]))
theorem DrOut2.one {h : Hp} {B : Nat} {x : Ending} {w' : World} (k : DrOut2 h B x w') : DrOut h B x w' := by
  rcases k with ⟨hk, g1, g2, g3, oa, oc, e, q, l, io, _⟩ | k
  · exact .inl ⟨hk, g1, g2, g3, oa, oc, e, q, l, io⟩
  · exact .inr k
theorem own_lt {w : World} {B e size m : Nat} {v : Value} {xs : List Value} (h : w.ownsRow B e size v m xs) : Far v w.heap.size := by
  intro a n c e _
  subst e
  rcases h.2 with ⟨e0, _⟩ | ⟨g', cap', cur, e0, hB, hh, _⟩
  · cases e0
  · injection e0 with e1
    injection e1 with e1
    subst e1
    exact (Array.getElem?_eq_some_iff.1 hh).1

theorem IR.setOther {w : World} {v : Value} {l : List Int} {b i : Nat} (h : IR w v l) (hb : ∀ a n c, v = .slice (some a) n c → 0 < n → a.block ≠ b) (u : Value) : IR (w.setCell ⟨b, i, none⟩ u) v l :=
  h.keep' fun a n c e hn => Below.heap_setCell _ _ _ _ (hb a n c e hn)

theorem own_far {w : World} {B e size m b : Nat} {v : Value} {xs : List Value} (h : w.ownsRow B e size v m xs) (hb : b < B) : ∀ a n c, v = .slice (some a) n c → 0 < n → a.block ≠ b := by
  intro a n c e _ k
  subst e
  rcases h.2 with ⟨e0, _⟩ | ⟨g', cap', cur, e0, hB, _⟩
  · cases e0
  · injection e0 with e1
    injection e1 with e1
    subst e1
    have : g' = b := k
    omega

theorem keepT {W a : World} {i : Nat} {v u0 u1 u2 u3 u4 u5 u6 u7 : Value} (h : Below W.heap.size W a ∧ a.cell? ⟨W.heap.size, 0, none⟩ = some u0 ∧ a.cell? ⟨W.heap.size, 1, none⟩ = some u1 ∧ a.cell? ⟨W.heap.size, 2, none⟩ = some u2 ∧ a.cell? ⟨W.heap.size, 3, none⟩ = some u3 ∧ a.cell? ⟨W.heap.size, 4, none⟩ = some u4 ∧ a.cell? ⟨W.heap.size, 5, none⟩ = some u5 ∧ a.cell? ⟨W.heap.size, 6, none⟩ = some u6 ∧ a.cell? ⟨W.heap.size, 7, none⟩ = some u7) :
    Below W.heap.size W (a.setCell ⟨W.heap.size + 1, i, none⟩ v) ∧ (a.setCell ⟨W.heap.size + 1, i, none⟩ v).cell? ⟨W.heap.size, 0, none⟩ = some u0 ∧ (a.setCell ⟨W.heap.size + 1, i, none⟩ v).cell? ⟨W.heap.size, 1, none⟩ = some u1 ∧ (a.setCell ⟨W.heap.size + 1, i, none⟩ v).cell? ⟨W.heap.size, 2, none⟩ = some u2 ∧ (a.setCell ⟨W.heap.size + 1, i, none⟩ v).cell? ⟨W.heap.size, 3, none⟩ = some u3 ∧ (a.setCell ⟨W.heap.size + 1, i, none⟩ v).cell? ⟨W.heap.size, 4, none⟩ = some u4 ∧ (a.setCell ⟨W.heap.size + 1, i, none⟩ v).cell? ⟨W.heap.size, 5, none⟩ = some u5 ∧ (a.setCell ⟨W.heap.size + 1, i, none⟩ v).cell? ⟨W.heap.size, 6, none⟩ = some u6 ∧ (a.setCell ⟨W.heap.size + 1, i, none⟩ v).cell? ⟨W.heap.size, 7, none⟩ = some u7 := by
  have e : ∀ o u, a.cell? ⟨W.heap.size, o, none⟩ = some u → (a.setCell ⟨W.heap.size + 1, i, none⟩ v).cell? ⟨W.heap.size, o, none⟩ = some u := fun o u q =>
    (World.cell?_of_block (w := a) (a := ⟨W.heap.size, o, none⟩) (Below.heap_setCell _ _ _ _ (by simp))).trans q
  obtain ⟨h0, h1, h2, h3, h4, h5, h6, h7, h8⟩ := h
  exact ⟨h0.setCell (p := ⟨W.heap.size + 1, i, none⟩) (Nat.le_succ _) _, e _ _ h1, e _ _ h2, e _ _ h3, e _ _ h4, e _ _ h5, e _ _ h6, e _ _ h7, e _ _ h8⟩



end Go.Proofs.Ytphkmgalgngjiaa

/- The program's draft: its words that fit, its heap. -/
namespace Go.Proofs.Ytphkmgalgngjiaa
open Go.RowKit




end Go.Proofs.Ytphkmgalgngjiaa

/- AddRoot of the program. -/
namespace Go.Proofs.Ytphkmgalgngjiaa
open Go.RowKit

theorem add_no {h : Hp} {x : Int} (k : addB h x = false) : addC h x = zeroH := by unfold addC; rw [k]; rfl
theorem add_yes {h : Hp} {x : Int} (k : addB h x = true) : addC h x = { h with roots := h.roots ++ [x] } := by unfold addC; rw [k]; rfl
theorem zero_ret {h' : Hp} {b : Bool} {B : Nat} {w' : World} (k : b = false) (e : h' = zeroH) :
    Ending.returned (.tuple #[.agg #[.slice none 0 0, .slice none 0 0, .int .i64 0, .int .i64 0, .int .i64 0, .bool false, .int .i64 0, .slice none 0 0], .bool false]) = .returned (.tuple #[.agg #[.slice none 0 0, .slice none 0 0, .int .i64 0, .int .i64 0, .int .i64 0, .bool false, .int .i64 0, .slice none 0 0], .bool b]) ∧ HN B w' (.agg #[.slice none 0 0, .slice none 0 0, .int .i64 0, .int .i64 0, .int .i64 0, .bool false, .int .i64 0, .slice none 0 0]) h' := by
  subst k
  subst e
  exact ⟨rfl, zero_hn _ _⟩

theorem row_one (w : World) (x : Int) : RI (w.alloc (.cells #[.int .i64 x] 2)) w.heap.size [x] 1 := by
  refine ⟨fun _ => .int .i64 x, World.rowIs_alloc w #[.int .i64 x] 2 _ (fun i hi => ?_), by simp, fun i hi => ?_⟩
  · have : i = 0 := by simp at hi; omega
    subst this
    rfl
  · have : i = 0 := by simp at hi; omega
    subst this
    rfl


end Go.Proofs.Ytphkmgalgngjiaa

/- SetRoot of the program. -/
namespace Go.Proofs.Ytphkmgalgngjiaa
open Go.RowKit

theorem set_no {h : Hp} {i x : Int} (k : setB h i x = false) : setC h i x = zeroH := by unfold setC; rw [k]; rfl
theorem set_yes {h : Hp} {i x : Int} (k : setB h i x = true) : setC h i x = { h with roots := h.roots.set i.toNat x } := by unfold setC; rw [k]; rfl


end Go.Proofs.Ytphkmgalgngjiaa
