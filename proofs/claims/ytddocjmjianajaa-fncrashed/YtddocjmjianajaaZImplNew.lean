/- Newest of the program. -/
import Derived.Test.YtddocjmjianajaaZME
namespace Go.Proofs.Ytddocjmjianajaa
open Go.RowKit

theorem okD_parts {ss : List ByteArray} {ws : List Disk.Wr} (h : Disk.okD ss ws = true) : ss.length = 64 ∧ ∀ k, k < 64 → (textAt ss k).size ≤ 256 := by
  have hl : ss.length = 64 := Classical.byContradiction fun hc => by rw [Disk.okD_len hc] at h; cases h
  refine ⟨hl, fun k hk => Classical.byContradiction fun hc => ?_⟩
  rw [Disk.okD_text (k := k) (by omega) hc] at h
  cases h
theorem ss_of {ss : List ByteArray} {ws : List Disk.Wr} {w : World} {v : Value} (h : Disk.SR w v ss) (ho : Disk.okD ss ws = true) : Ss w v ss := ⟨h, (okD_parts ho).1, (okD_parts ho).2⟩


end Go.Proofs.Ytddocjmjianajaa
