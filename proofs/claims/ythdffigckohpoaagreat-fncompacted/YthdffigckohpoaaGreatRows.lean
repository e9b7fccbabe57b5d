/-
  No cell of these rows narrows 'for every input' (looked for: loops, veiled, ifaces, maps, wideKeys, modest, calm, conditions, laid).
  DERIVED. THE GIVEN ROWS OF THIS SEAT. 3 by the template 'for every input the law returns true; each argument reads behind the call as it read before'; 0 by the template 'total and deterministic' (their statements: YthdffigckohpoaaGreatTotals.lean).
  GIVEN WITH THE SEED: the statements are not yours to turn. If you find one false, say at which input.
  Laid BY PROGRAM, IN A SANDBOX (cutbox-rows.mjs): the forced cells as the released guide's own fill.sh prints them over the translation e25e0e0ec644865d… (all of the seat's roots in one cut). By AI agents, Wed Nov 11 2026. No macro, syntax, notation, axiom, sorry.
-/
import Derived.Test.YthdffigckohpoaaGreatChecked
import GoSem.Claim
import GoSem.ClaimJoined
import GoSem.ClaimMapViews
import Derived.JoinedTies
import Derived.KernelRfl
namespace Go.Proofs.YthdffigckohpoaaGreat
/- THE CELL 'sum', in the pinned program and in every row, IS THE sha256 OF THE DUMP (.gsa) THAT YthdffigckohpoaaGreatProg.lean LOADS. Nothing in Lean hashes anything: it is a label: what it is worth is what the hold of that sum in a sandbox is worth. -/
noncomputable def Tryz.pinned : Pinned := { name := "ythdffigckohpoaagreat", sum := "e25e0e0ec644865d3db1a5cd14fe0cd1e891c9386841414c7d6ec35afd8efe1e", checked := Tryz.checked }
namespace Rows
def none {H : Type} : Left H := { results := [], args := [] }

/-- 'laws.FnCompacted': WHATEVER THE INPUT: true; the input reads as it did. -/
def fnCompactedSpec : ChangeSpec := { name := "fnCompacted", fn := fun _ => fun
  | [d] => { results := [.lit (.bool true)], args := [d] }
  | _ => none }
def fnCompactedRow : OpenClaim := { program := "ythdffigckohpoaagreat", sum := "e25e0e0ec644865d3db1a5cd14fe0cd1e891c9386841414c7d6ec35afd8efe1e", func := "loop.example/g00140/laws.FnCompacted", spec := "fnCompacted", unfollowed := true, recurses := true, apart := false }
def FnCompactedSaid : Prop := fnCompactedRow.holds Tryz.pinned (OpenSpec.ofChange fnCompactedSpec)

/-- ITS FALSE NEIGHBOUR: 'it returns false'. Refute it at one input. -/
def fnCompactedWrong : ChangeSpec := { name := "fnCompacted", fn := fun _ => fun
  | [d] => { results := [.lit (.bool false)], args := [d] }
  | _ => none }
def FnCompactedWrongFalsely : Prop := fnCompactedRow.holds Tryz.pinned (OpenSpec.ofChange fnCompactedWrong)

/-- 'laws.FnExchanged': WHATEVER THE INPUT: true; the input reads as it did. -/
def fnExchangedSpec : ChangeSpec := { name := "fnExchanged", fn := fun _ => fun
  | [d] => { results := [.lit (.bool true)], args := [d] }
  | _ => none }
def fnExchangedRow : OpenClaim := { program := "ythdffigckohpoaagreat", sum := "e25e0e0ec644865d3db1a5cd14fe0cd1e891c9386841414c7d6ec35afd8efe1e", func := "loop.example/g00140/laws.FnExchanged", spec := "fnExchanged", unfollowed := true, recurses := true, apart := false }
def FnExchangedSaid : Prop := fnExchangedRow.holds Tryz.pinned (OpenSpec.ofChange fnExchangedSpec)

/-- ITS FALSE NEIGHBOUR: 'it returns false'. Refute it at one input. -/
def fnExchangedWrong : ChangeSpec := { name := "fnExchanged", fn := fun _ => fun
  | [d] => { results := [.lit (.bool false)], args := [d] }
  | _ => none }
def FnExchangedWrongFalsely : Prop := fnExchangedRow.holds Tryz.pinned (OpenSpec.ofChange fnExchangedWrong)

/-- 'laws.FnForwarded': WHATEVER THE INPUT: true; the input reads as it did. -/
def fnForwardedSpec : ChangeSpec := { name := "fnForwarded", fn := fun _ => fun
  | [d] => { results := [.lit (.bool true)], args := [d] }
  | _ => none }
def fnForwardedRow : OpenClaim := { program := "ythdffigckohpoaagreat", sum := "e25e0e0ec644865d3db1a5cd14fe0cd1e891c9386841414c7d6ec35afd8efe1e", func := "loop.example/g00140/laws.FnForwarded", spec := "fnForwarded", unfollowed := true, recurses := true, apart := false }
def FnForwardedSaid : Prop := fnForwardedRow.holds Tryz.pinned (OpenSpec.ofChange fnForwardedSpec)

/-- ITS FALSE NEIGHBOUR: 'it returns false'. Refute it at one input. -/
def fnForwardedWrong : ChangeSpec := { name := "fnForwarded", fn := fun _ => fun
  | [d] => { results := [.lit (.bool false)], args := [d] }
  | _ => none }
def FnForwardedWrongFalsely : Prop := fnForwardedRow.holds Tryz.pinned (OpenSpec.ofChange fnForwardedWrong)

/- THE SECOND FORM. 'bulk': how many values and letters a reading holds, each counted each time it is reached (what is shared counts as often as it is met; a slice's spare places count too). A statement '..UptoSaid' is the law's where the arguments, and the package variables that the reading takes, are together of bulk at most 1048576: NARROWER than '..Said'. Prove '..Said' where nothing that the law and all that it calls make is longer than what came in: it says more and counts as full. Else prove '..UptoSaid'. A law counts once. -/
mutual
def uptoBulk {H : Type} : DataW H → Nat
  | .lit (.string bytes) => bytes.length + 1
  | .lit _ => 1
  | .nil => 1
  | .ptr d => uptoBulk d + 1
  | .slice elems spare => uptoBulkAll elems + uptoBulkAll spare + 1
  | .agg parts => uptoBulkAll parts + 1
  | .iface _ d => uptoBulk d + 1
  | .map entries => uptoBulkEntries entries + 1
  | .held _ => 1
def uptoBulkAll {H : Type} : List (DataW H) → Nat
  | [] => 0
  | d :: r => uptoBulk d + uptoBulkAll r
def uptoBulkEntries {H : Type} : List (Lit × DataW H) → Nat
  | [] => 0
  | x :: r => uptoBulkEntry x + uptoBulkEntries r
def uptoBulkEntry {H : Type} : Lit × DataW H → Nat
  | (.string bytes, d) => bytes.length + uptoBulk d + 1
  | (_, d) => uptoBulk d + 1
 end
def uptoSmall : (H : Type) → List (DataW H) → Bool := fun _ ds => decide (uptoBulkAll ds ≤ 1048576)
def OpenSpec.upto (s : _root_.Go.ChangeSpec) : _root_.Go.OpenSpec := { _root_.Go.OpenSpec.ofChange s with cond := some uptoSmall }

/-- 'laws.FnCompacted', WHERE WHAT IT READS IS OF BULK AT MOST 1048576: true; the input reads as it did. -/
def fnCompactedUptoRow : OpenClaim := { program := "ythdffigckohpoaagreat", sum := "e25e0e0ec644865d3db1a5cd14fe0cd1e891c9386841414c7d6ec35afd8efe1e", func := "loop.example/g00140/laws.FnCompacted", spec := "fnCompacted", unfollowed := true, recurses := true, apart := false, narrowed := true }
def FnCompactedUptoSaid : Prop := fnCompactedUptoRow.holds Tryz.pinned (OpenSpec.upto fnCompactedSpec)

/-- 'laws.FnExchanged', WHERE WHAT IT READS IS OF BULK AT MOST 1048576: true; the input reads as it did. -/
def fnExchangedUptoRow : OpenClaim := { program := "ythdffigckohpoaagreat", sum := "e25e0e0ec644865d3db1a5cd14fe0cd1e891c9386841414c7d6ec35afd8efe1e", func := "loop.example/g00140/laws.FnExchanged", spec := "fnExchanged", unfollowed := true, recurses := true, apart := false, narrowed := true }
def FnExchangedUptoSaid : Prop := fnExchangedUptoRow.holds Tryz.pinned (OpenSpec.upto fnExchangedSpec)

/-- 'laws.FnForwarded', WHERE WHAT IT READS IS OF BULK AT MOST 1048576: true; the input reads as it did. -/
def fnForwardedUptoRow : OpenClaim := { program := "ythdffigckohpoaagreat", sum := "e25e0e0ec644865d3db1a5cd14fe0cd1e891c9386841414c7d6ec35afd8efe1e", func := "loop.example/g00140/laws.FnForwarded", spec := "fnForwarded", unfollowed := true, recurses := true, apart := false, narrowed := true }
def FnForwardedUptoSaid : Prop := fnForwardedUptoRow.holds Tryz.pinned (OpenSpec.upto fnForwardedSpec)

end Rows
end Go.Proofs.YthdffigckohpoaaGreat
