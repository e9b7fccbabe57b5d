
import Derived.Test.YtphkmgalgngjiaaGreatZN1
import Derived.Test.YtphkmgalgngjiaaGreatZHSpecW
import Derived.Test.YtphkmgalgngjiaaGreatZN9
/- copy into a row of the call's own, as an operation of a region. -/
namespace Go.Proofs.YtphkmgalgngjiaaGreat
open Go.RowKit

theorem four_ri (w : World) (a b c d : Int) : RI (w.alloc (.cells #[.int .i64 a, .int .i64 b, .int .i64 c, .int .i64 d] 2)) w.heap.size [a, b, c, d] 4 := by
  have q := row_any w #[.int .i64 a, .int .i64 b, .int .i64 c, .int .i64 d] 2
  refine ⟨_, q, by simp, fun i hi => ?_⟩
  simp only [List.length_cons, List.length_nil] at hi
  rcases i with _ | _ | _ | _ | i
  · rfl
  · rfl
  · rfl
  · rfl
  · omega
end Go.Proofs.YtphkmgalgngjiaaGreat

/- An object's header is laid down by the program. -/
namespace Go.Proofs.YtphkmgalgngjiaaGreat
open Go.RowKit

end Go.Proofs.YtphkmgalgngjiaaGreat
