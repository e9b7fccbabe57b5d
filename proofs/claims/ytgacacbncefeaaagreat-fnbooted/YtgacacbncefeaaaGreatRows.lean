/-
  No cell of these rows narrows 'for every input' (looked for: loops, veiled, ifaces, maps, wideKeys, modest, calm, conditions, laid).
  DERIVED. THE GIVEN ROWS OF THIS SEAT. 4 by the template 'for every input the law returns true; each argument reads behind the call as it read before'; 0 by the template 'total and deterministic' (their statements: YtgacacbncefeaaaGreatTotals.lean).
  GIVEN WITH THE SEED: the statements are not yours to turn. If you find one false, say at which input.
  Laid BY PROGRAM, IN A SANDBOX (cutbox-rows.mjs): the forced cells as the released guide's own fill.sh prints them over the translation 3e0337c264842afa… (all of the seat's roots in one cut). By AI agents, Wed Nov 11 2026. No macro, syntax, notation, axiom, sorry.
-/
import Derived.Test.YtgacacbncefeaaaGreatChecked
import GoSem.Claim
import GoSem.ClaimJoined
import GoSem.ClaimMapViews
import Derived.JoinedTies
import Derived.KernelRfl
namespace Go.Proofs.YtgacacbncefeaaaGreat
/- THE CELL 'sum', in the pinned program and in every row, IS THE sha256 OF THE DUMP (.gsa) THAT YtgacacbncefeaaaGreatProg.lean LOADS. Nothing in Lean hashes anything: it is a label: what it is worth is what the hold of that sum in a sandbox is worth. -/
noncomputable def Tryz.pinned : Pinned := { name := "ytgacacbncefeaaagreat", sum := "3e0337c264842afa9445ee291dd35bd3d935c6c44ec8c55674e2e8487af5bc65", checked := Tryz.checked }
namespace Rows
def none {H : Type} : Left H := { results := [], args := [] }

/-- 'laws.FnBooted': WHATEVER THE INPUT: true; the input reads as it did. -/
def fnBootedSpec : ChangeSpec := { name := "fnBooted", fn := fun _ => fun
  | [d] => { results := [.lit (.bool true)], args := [d] }
  | _ => none }
def fnBootedRow : OpenClaim := { program := "ytgacacbncefeaaagreat", sum := "3e0337c264842afa9445ee291dd35bd3d935c6c44ec8c55674e2e8487af5bc65", func := "loop.example/g00140/laws.FnBooted", spec := "fnBooted", unfollowed := true, recurses := true, apart := false }
def FnBootedSaid : Prop := fnBootedRow.holds Tryz.pinned (OpenSpec.ofChange fnBootedSpec)

/-- ITS FALSE NEIGHBOUR: 'it returns false'. Refute it at one input. -/
def fnBootedWrong : ChangeSpec := { name := "fnBooted", fn := fun _ => fun
  | [d] => { results := [.lit (.bool false)], args := [d] }
  | _ => none }
def FnBootedWrongFalsely : Prop := fnBootedRow.holds Tryz.pinned (OpenSpec.ofChange fnBootedWrong)

/-- 'laws.FnExactNewVm': WHATEVER THE INPUT: true; the input reads as it did. -/
def fnExactNewVmSpec : ChangeSpec := { name := "fnExactNewVm", fn := fun _ => fun
  | [d] => { results := [.lit (.bool true)], args := [d] }
  | _ => none }
def fnExactNewVmRow : OpenClaim := { program := "ytgacacbncefeaaagreat", sum := "3e0337c264842afa9445ee291dd35bd3d935c6c44ec8c55674e2e8487af5bc65", func := "loop.example/g00140/laws.FnExactNewVm", spec := "fnExactNewVm", unfollowed := true, recurses := true, apart := false }
def FnExactNewVmSaid : Prop := fnExactNewVmRow.holds Tryz.pinned (OpenSpec.ofChange fnExactNewVmSpec)

/-- ITS FALSE NEIGHBOUR: 'it returns false'. Refute it at one input. -/
def fnExactNewVmWrong : ChangeSpec := { name := "fnExactNewVm", fn := fun _ => fun
  | [d] => { results := [.lit (.bool false)], args := [d] }
  | _ => none }
def FnExactNewVmWrongFalsely : Prop := fnExactNewVmRow.holds Tryz.pinned (OpenSpec.ofChange fnExactNewVmWrong)

/-- 'laws.FnExactVmOk': WHATEVER THE INPUT: true; the input reads as it did. -/
def fnExactVmOkSpec : ChangeSpec := { name := "fnExactVmOk", fn := fun _ => fun
  | [d] => { results := [.lit (.bool true)], args := [d] }
  | _ => none }
def fnExactVmOkRow : OpenClaim := { program := "ytgacacbncefeaaagreat", sum := "3e0337c264842afa9445ee291dd35bd3d935c6c44ec8c55674e2e8487af5bc65", func := "loop.example/g00140/laws.FnExactVmOk", spec := "fnExactVmOk", unfollowed := true, recurses := true, apart := false }
def FnExactVmOkSaid : Prop := fnExactVmOkRow.holds Tryz.pinned (OpenSpec.ofChange fnExactVmOkSpec)

/-- ITS FALSE NEIGHBOUR: 'it returns false'. Refute it at one input. -/
def fnExactVmOkWrong : ChangeSpec := { name := "fnExactVmOk", fn := fun _ => fun
  | [d] => { results := [.lit (.bool false)], args := [d] }
  | _ => none }
def FnExactVmOkWrongFalsely : Prop := fnExactVmOkRow.holds Tryz.pinned (OpenSpec.ofChange fnExactVmOkWrong)

/-- 'laws.FnExactResult': WHATEVER THE INPUT: true; the input reads as it did. -/
def fnExactResultSpec : ChangeSpec := { name := "fnExactResult", fn := fun _ => fun
  | [d] => { results := [.lit (.bool true)], args := [d] }
  | _ => none }
def fnExactResultRow : OpenClaim := { program := "ytgacacbncefeaaagreat", sum := "3e0337c264842afa9445ee291dd35bd3d935c6c44ec8c55674e2e8487af5bc65", func := "loop.example/g00140/laws.FnExactResult", spec := "fnExactResult", unfollowed := true, recurses := true, apart := false }
def FnExactResultSaid : Prop := fnExactResultRow.holds Tryz.pinned (OpenSpec.ofChange fnExactResultSpec)

/-- ITS FALSE NEIGHBOUR: 'it returns false'. Refute it at one input. -/
def fnExactResultWrong : ChangeSpec := { name := "fnExactResult", fn := fun _ => fun
  | [d] => { results := [.lit (.bool false)], args := [d] }
  | _ => none }
def FnExactResultWrongFalsely : Prop := fnExactResultRow.holds Tryz.pinned (OpenSpec.ofChange fnExactResultWrong)

/- THE SECOND FORM. 'bulk': how many values and letters a reading holds, each counted each time it is reached (what is shared counts as often as it is met; a slice's spare places count too). A statement '..UptoSaid' is the law's where the arguments, and the package variables that the reading takes, are together of bulk at most 1048576: NARROWER than '..Said'. Prove '..Said' where nothing that the law and all that it calls make is longer than what came in: it says more and counts as full. Else prove '..UptoSaid'. A law counts once. -/
mutual
def uptoBulk {H : Type} : DataW H → Nat
  | .lit (.string bytes) => bytes.length + 1
  | .lit _ => 1
  | .nil => 1
  | .ptr d => uptoBulk d + 1
  | .slice elems spare => uptoBulkAll elems + uptoBulkAll spare + 1
  | .agg parts => uptoBulkAll parts + 1
  | .iface _ d => uptoBulk d + 1
  | .map entries => uptoBulkEntries entries + 1
  | .held _ => 1
def uptoBulkAll {H : Type} : List (DataW H) → Nat
  | [] => 0
  | d :: r => uptoBulk d + uptoBulkAll r
def uptoBulkEntries {H : Type} : List (Lit × DataW H) → Nat
  | [] => 0
  | x :: r => uptoBulkEntry x + uptoBulkEntries r
def uptoBulkEntry {H : Type} : Lit × DataW H → Nat
  | (.string bytes, d) => bytes.length + uptoBulk d + 1
  | (_, d) => uptoBulk d + 1
 end
def uptoSmall : (H : Type) → List (DataW H) → Bool := fun _ ds => decide (uptoBulkAll ds ≤ 1048576)
def OpenSpec.upto (s : _root_.Go.ChangeSpec) : _root_.Go.OpenSpec := { _root_.Go.OpenSpec.ofChange s with cond := some uptoSmall }

/-- 'laws.FnBooted', WHERE WHAT IT READS IS OF BULK AT MOST 1048576: true; the input reads as it did. -/
def fnBootedUptoRow : OpenClaim := { program := "ytgacacbncefeaaagreat", sum := "3e0337c264842afa9445ee291dd35bd3d935c6c44ec8c55674e2e8487af5bc65", func := "loop.example/g00140/laws.FnBooted", spec := "fnBooted", unfollowed := true, recurses := true, apart := false, narrowed := true }
def FnBootedUptoSaid : Prop := fnBootedUptoRow.holds Tryz.pinned (OpenSpec.upto fnBootedSpec)

/-- 'laws.FnExactNewVm', WHERE WHAT IT READS IS OF BULK AT MOST 1048576: true; the input reads as it did. -/
def fnExactNewVmUptoRow : OpenClaim := { program := "ytgacacbncefeaaagreat", sum := "3e0337c264842afa9445ee291dd35bd3d935c6c44ec8c55674e2e8487af5bc65", func := "loop.example/g00140/laws.FnExactNewVm", spec := "fnExactNewVm", unfollowed := true, recurses := true, apart := false, narrowed := true }
def FnExactNewVmUptoSaid : Prop := fnExactNewVmUptoRow.holds Tryz.pinned (OpenSpec.upto fnExactNewVmSpec)

/-- 'laws.FnExactVmOk', WHERE WHAT IT READS IS OF BULK AT MOST 1048576: true; the input reads as it did. -/
def fnExactVmOkUptoRow : OpenClaim := { program := "ytgacacbncefeaaagreat", sum := "3e0337c264842afa9445ee291dd35bd3d935c6c44ec8c55674e2e8487af5bc65", func := "loop.example/g00140/laws.FnExactVmOk", spec := "fnExactVmOk", unfollowed := true, recurses := true, apart := false, narrowed := true }
def FnExactVmOkUptoSaid : Prop := fnExactVmOkUptoRow.holds Tryz.pinned (OpenSpec.upto fnExactVmOkSpec)

/-- 'laws.FnExactResult', WHERE WHAT IT READS IS OF BULK AT MOST 1048576: true; the input reads as it did. -/
def fnExactResultUptoRow : OpenClaim := { program := "ytgacacbncefeaaagreat", sum := "3e0337c264842afa9445ee291dd35bd3d935c6c44ec8c55674e2e8487af5bc65", func := "loop.example/g00140/laws.FnExactResult", spec := "fnExactResult", unfollowed := true, recurses := true, apart := false, narrowed := true }
def FnExactResultUptoSaid : Prop := fnExactResultUptoRow.holds Tryz.pinned (OpenSpec.upto fnExactResultSpec)

end Rows
end Go.Proofs.YtgacacbncefeaaaGreat
