/- An operation whose guard does not hold, in a region that draws its order. -/
import Derived.Test.YtgacacbncefeaaaGreatZP1
namespace Go.Proofs.YtgacacbncefeaaaGreat.Disk
open Go

theorem z_pass {P : Program} {md : Region.Mode} {ops : Array Oper} {R : Act → World → Prop} {S : World → Prop} {z : Nat} (i d : Nat) {oi : Oper} {fuel : Nat} {listed : Array Bool} {T : Array Value} {D : List Deferred} {w : World} (hi : ops[i]? = some oi) (hd : oi.dst = some d)
    (hz : waitsB md ops z i = true) (hs : Region.noSelect ops = true) (hf : Region.free md ops listed i = true) (hr : (Region.ready md ops listed).contains i = true)
    (hw : Region.wanted oi (yielded ops T) = false) (hS : S w)
    (h : wpAnyZ P md ops (Ends R) z S fuel (listed.setIfInBounds i true) ⟨T.setIfInBounds d undef, D⟩ w) : wpAnyZ P md ops (Ends R) z S (fuel + 1) listed ⟨T, D⟩ w :=
  wpAnyZ_first hi hz (Region.noSelect_spec hs) ends_panic fuel listed _ w (Region.free_spec hi hf) (by simpa using hr) (Or.inr ⟨hw, rfl⟩) hS (by rw [hd]; exact h)

end Go.Proofs.YtgacacbncefeaaaGreat.Disk
