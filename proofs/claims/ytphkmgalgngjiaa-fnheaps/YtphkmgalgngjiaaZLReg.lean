/- The draw of a heap: what its regions are taken by. -/
import Derived.Test.YtphkmgalgngjiaaZMI
import Derived.Test.YtphkmgalgngjiaaZLOps
import Derived.Test.YtphkmgalgngjiaaZDOr
namespace Go.Proofs.Ytphkmgalgngjiaa
open Go.RowKit

/-- The region of this number. -/
def regOf (n : Nat) : Code → Option Code
  | .region i ops d => if i = n then some (.region i ops d) else none
  | .seq a b => match regOf n a with
    | some c => some c
    | none => regOf n b
  | .block _ c => regOf n c
  | .scope c => regOf n c
  | .loop c => regOf n c
  | .cond _ a b => match regOf n a with
    | some c => some c
    | none => regOf n b
  | _ => none
/-- The block of this number. -/
def blkOf (n : Nat) : Code → Option Code
  | .block i c => if i = n then some (.block i c) else blkOf n c
  | .seq a b => match blkOf n a with
    | some c => some c
    | none => blkOf n b
  | .scope c => blkOf n c
  | .loop c => blkOf n c
  | .cond _ a b => match blkOf n a with
    | some c => some c
    | none => blkOf n b
  | _ => none
noncomputable def blk4 : Code := ((Try.f27.body.bind (blkOf 4)).getD .skip)
theorem box_new {W cur : World} {N : Nat} {cv : Value} {cs : List UInt8} (hs : Sx W N cv cs cur) (hN : N < W.heap.size) : ∃ wa SB, wa = cur.alloc (.cells #[.slice none 0 0, .slice none 0 0, .int .i64 0, .int .i64 0, .int .i64 0, .bool false, .int .i64 0, .slice none 0 0] 26) ∧ SB = cur.heap.size ∧ Sx W N cv cs wa ∧ (∃ f, wa.rowIs SB 26 8 f) ∧ W.heap.size ≤ SB ∧ Below cur.heap.size cur wa :=
  ⟨_, _, rfl, rfl, hs.more (bel_one _ _) hN, ⟨_, row_any cur #[.slice none 0 0, .slice none 0 0, .int .i64 0, .int .i64 0, .int .i64 0, .bool false, .int .i64 0, .slice none 0 0] 26⟩, hs.1.size, bel_one _ _⟩
theorem wrap_in (x : Int) : In64 (wrap64 x) := by
  unfold In64 wrap64
  omega


end Go.Proofs.Ytphkmgalgngjiaa
