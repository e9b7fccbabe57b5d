/- toBoolS, eqBoolS: slices of flags copied and held against each other. -/
import Derived.Test.YtddocjmjianajaaZMF
namespace Go.Proofs.Ytddocjmjianajaa.Disk
open Go.RowKit

theorem Try.info4 : (Try.prog.info? 4).map (fun i => (i.zero, i.size, i.bytes)) = some (some (.bool false), 1, 1) := by kernel_rfl
theorem Try.under43 : Try.prog.underlying 35 = some (.slice 4) := by kernel_rfl

theorem make43 (n : Nat) (hn : n ≤ 200000000000000) (w : World) : (Instr.makeSlice 35 (.int .i64 (n : Int)) (.int .i64 (n : Int))).run Try.prog w = .ok (.slice (some ⟨w.heap.size, 0, none⟩) n n) (w.alloc (.cells (madeCells #[.bool false] n) 4)) :=
  run_make_row' (P := Try.prog) 35 4 (.bool false) 1 Try.under43 Try.info4 rfl .i64 .i64 n (by omega) (by omega) w

theorem made_rowB (w : World) (n : Nat) : ∃ f : Nat → Value, (w.alloc (.cells (madeCells #[.bool false] n) 4)).rowIs w.heap.size 4 n f := by
  have h := row_any w (madeCells #[.bool false] n) 4
  rw [size_madeCells] at h
  exact ⟨_, h⟩

def bcell1 (bs : List Bool) (i : Nat) : Value := .bool (bs.getD i false)

/-- A new slice of flags with a row of its own from block B on. -/
def NB (B : Nat) (w' : World) (v : Value) (bs : List Bool) : Prop :=
  OS w' 4 1 v bs.length ∧ LR w' v bs ∧ ∀ b, rowOf v bs.length = some b → B ≤ b
theorem NB.later {B : Nat} {w w' : World} {v : Value} {bs : List Bool} (h : NB B w v bs) (hb : Below w.heap.size w w') : NB B w' v bs := ⟨h.1.later hb, h.2.1.later hb, h.2.2⟩

theorem nb_row {B : Nat} {w : World} {b N cap : Nat} {bs : List Bool} {f : Nat → Value} (h : w.rowIs b 4 N (fun i => if i < bs.length then bcell1 bs i else f i)) (hN : bs.length ≤ N) (hB : B ≤ b) :
    NB B w (.slice (some ⟨b, 0, none⟩) bs.length cap) bs := by
  refine ⟨⟨_, _, rfl, .inr ⟨b, N, _, rfl, by omega, h⟩⟩, ⟨_, _, rfl, fun i hi => ⟨b, 0, rfl, ?_⟩⟩, fun b' e => ?_⟩
  · rw [Nat.zero_add, h.cell (by omega), if_pos hi]
    rfl
  · unfold rowOf at e
    by_cases hn : bs.length = 0
    · simp [hn] at e
    · simp [hn, Value.ownBlock] at e
      omega


end Go.Proofs.Ytddocjmjianajaa.Disk
