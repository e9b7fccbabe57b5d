/-
  No cell of these rows narrows 'for every input' (looked for: loops, veiled, ifaces, maps, wideKeys, modest, calm, conditions, laid).
  DERIVED. THE GIVEN ROWS OF THIS SEAT. 4 by the template 'for every input the law returns true; each argument reads behind the call as it read before'; 0 by the template 'total and deterministic' (their statements: YtfbnjdlnmnhjoaaTotals.lean).
  GIVEN WITH THE SEED: the statements are not yours to turn. If you find one false, say at which input.
  Laid BY PROGRAM, IN A SANDBOX (cutbox-rows.mjs): the forced cells as the released guide's own fill.sh prints them over the translation 551f5bcb9ba381de… (all of the seat's roots in one cut). By AI agents, Wed Nov 11 2026. No macro, syntax, notation, axiom, sorry.
-/
import Derived.Test.YtfbnjdlnmnhjoaaChecked
import GoSem.Claim
import GoSem.ClaimJoined
import GoSem.ClaimMapViews
import Derived.JoinedTies
import Derived.KernelRfl
namespace Go.Proofs.Ytfbnjdlnmnhjoaa
/- THE CELL 'sum', in the pinned program and in every row, IS THE sha256 OF THE DUMP (.gsa) THAT YtfbnjdlnmnhjoaaProg.lean LOADS. Nothing in Lean hashes anything: it is a label: what it is worth is what the hold of that sum in a sandbox is worth. -/
noncomputable def Try.pinned : Pinned := { name := "ytfbnjdlnmnhjoaa", sum := "551f5bcb9ba381dee1bd56c9734b381513a41cc61d310f57104f03257bd630cf", checked := Try.checked }
namespace Rows
def none {H : Type} : Left H := { results := [], args := [] }

/-- 'laws.FnExactReached': WHATEVER THE INPUT: true; the input reads as it did. -/
def fnExactReachedSpec : ChangeSpec := { name := "fnExactReached", fn := fun _ => fun
  | [d] => { results := [.lit (.bool true)], args := [d] }
  | _ => none }
def fnExactReachedRow : OpenClaim := { program := "ytfbnjdlnmnhjoaa", sum := "551f5bcb9ba381dee1bd56c9734b381513a41cc61d310f57104f03257bd630cf", func := "loop.example/g00140/laws.FnExactReached", spec := "fnExactReached", recurses := true, apart := false }
def FnExactReachedSaid : Prop := fnExactReachedRow.holds Try.pinned (OpenSpec.ofChange fnExactReachedSpec)

/-- ITS FALSE NEIGHBOUR: 'it returns false'. Refute it at one input. -/
def fnExactReachedWrong : ChangeSpec := { name := "fnExactReached", fn := fun _ => fun
  | [d] => { results := [.lit (.bool false)], args := [d] }
  | _ => none }
def FnExactReachedWrongFalsely : Prop := fnExactReachedRow.holds Try.pinned (OpenSpec.ofChange fnExactReachedWrong)

/-- 'laws.FnExactNew': WHATEVER THE INPUT: true; the input reads as it did. -/
def fnExactNewSpec : ChangeSpec := { name := "fnExactNew", fn := fun _ => fun
  | [d1, d2, d3] => { results := [.lit (.bool true)], args := [d1, d2, d3] }
  | _ => none }
def fnExactNewRow : OpenClaim := { program := "ytfbnjdlnmnhjoaa", sum := "551f5bcb9ba381dee1bd56c9734b381513a41cc61d310f57104f03257bd630cf", func := "loop.example/g00140/laws.FnExactNew", spec := "fnExactNew", recurses := true, apart := false }
def FnExactNewSaid : Prop := fnExactNewRow.holds Try.pinned (OpenSpec.ofChange fnExactNewSpec)

/-- ITS FALSE NEIGHBOUR: 'it returns false'. Refute it at one input. -/
def fnExactNewWrong : ChangeSpec := { name := "fnExactNew", fn := fun _ => fun
  | [d1, d2, d3] => { results := [.lit (.bool false)], args := [d1, d2, d3] }
  | _ => none }
def FnExactNewWrongFalsely : Prop := fnExactNewRow.holds Try.pinned (OpenSpec.ofChange fnExactNewWrong)

/-- 'laws.FnExactAddRoot': WHATEVER THE INPUT: true; the input reads as it did. -/
def fnExactAddRootSpec : ChangeSpec := { name := "fnExactAddRoot", fn := fun _ => fun
  | [d1, d2] => { results := [.lit (.bool true)], args := [d1, d2] }
  | _ => none }
def fnExactAddRootRow : OpenClaim := { program := "ytfbnjdlnmnhjoaa", sum := "551f5bcb9ba381dee1bd56c9734b381513a41cc61d310f57104f03257bd630cf", func := "loop.example/g00140/laws.FnExactAddRoot", spec := "fnExactAddRoot", recurses := true, apart := false }
def FnExactAddRootSaid : Prop := fnExactAddRootRow.holds Try.pinned (OpenSpec.ofChange fnExactAddRootSpec)

/-- ITS FALSE NEIGHBOUR: 'it returns false'. Refute it at one input. -/
def fnExactAddRootWrong : ChangeSpec := { name := "fnExactAddRoot", fn := fun _ => fun
  | [d1, d2] => { results := [.lit (.bool false)], args := [d1, d2] }
  | _ => none }
def FnExactAddRootWrongFalsely : Prop := fnExactAddRootRow.holds Try.pinned (OpenSpec.ofChange fnExactAddRootWrong)

/-- 'laws.FnExactSetRoot': WHATEVER THE INPUT: true; the input reads as it did. -/
def fnExactSetRootSpec : ChangeSpec := { name := "fnExactSetRoot", fn := fun _ => fun
  | [d1, d2, d3] => { results := [.lit (.bool true)], args := [d1, d2, d3] }
  | _ => none }
def fnExactSetRootRow : OpenClaim := { program := "ytfbnjdlnmnhjoaa", sum := "551f5bcb9ba381dee1bd56c9734b381513a41cc61d310f57104f03257bd630cf", func := "loop.example/g00140/laws.FnExactSetRoot", spec := "fnExactSetRoot", recurses := true, apart := false }
def FnExactSetRootSaid : Prop := fnExactSetRootRow.holds Try.pinned (OpenSpec.ofChange fnExactSetRootSpec)

/-- ITS FALSE NEIGHBOUR: 'it returns false'. Refute it at one input. -/
def fnExactSetRootWrong : ChangeSpec := { name := "fnExactSetRoot", fn := fun _ => fun
  | [d1, d2, d3] => { results := [.lit (.bool false)], args := [d1, d2, d3] }
  | _ => none }
def FnExactSetRootWrongFalsely : Prop := fnExactSetRootRow.holds Try.pinned (OpenSpec.ofChange fnExactSetRootWrong)

/- THE SECOND FORM. 'bulk': how many values and letters a reading holds, each counted each time it is reached (what is shared counts as often as it is met; a slice's spare places count too). A statement '..UptoSaid' is the law's where the arguments, and the package variables that the reading takes, are together of bulk at most 1048576: NARROWER than '..Said'. Prove '..Said' where nothing that the law and all that it calls make is longer than what came in: it says more and counts as full. Else prove '..UptoSaid'. A law counts once. -/
mutual
def uptoBulk {H : Type} : DataW H → Nat
  | .lit (.string bytes) => bytes.length + 1
  | .lit _ => 1
  | .nil => 1
  | .ptr d => uptoBulk d + 1
  | .slice elems spare => uptoBulkAll elems + uptoBulkAll spare + 1
  | .agg parts => uptoBulkAll parts + 1
  | .iface _ d => uptoBulk d + 1
  | .map entries => uptoBulkEntries entries + 1
  | .held _ => 1
def uptoBulkAll {H : Type} : List (DataW H) → Nat
  | [] => 0
  | d :: r => uptoBulk d + uptoBulkAll r
def uptoBulkEntries {H : Type} : List (Lit × DataW H) → Nat
  | [] => 0
  | x :: r => uptoBulkEntry x + uptoBulkEntries r
def uptoBulkEntry {H : Type} : Lit × DataW H → Nat
  | (.string bytes, d) => bytes.length + uptoBulk d + 1
  | (_, d) => uptoBulk d + 1
 end
def uptoSmall : (H : Type) → List (DataW H) → Bool := fun _ ds => decide (uptoBulkAll ds ≤ 1048576)
def OpenSpec.upto (s : _root_.Go.ChangeSpec) : _root_.Go.OpenSpec := { _root_.Go.OpenSpec.ofChange s with cond := some uptoSmall }

/-- 'laws.FnExactReached', WHERE WHAT IT READS IS OF BULK AT MOST 1048576: true; the input reads as it did. -/
def fnExactReachedUptoRow : OpenClaim := { program := "ytfbnjdlnmnhjoaa", sum := "551f5bcb9ba381dee1bd56c9734b381513a41cc61d310f57104f03257bd630cf", func := "loop.example/g00140/laws.FnExactReached", spec := "fnExactReached", recurses := true, apart := false, narrowed := true }
def FnExactReachedUptoSaid : Prop := fnExactReachedUptoRow.holds Try.pinned (OpenSpec.upto fnExactReachedSpec)

/-- 'laws.FnExactNew', WHERE WHAT IT READS IS OF BULK AT MOST 1048576: true; the input reads as it did. -/
def fnExactNewUptoRow : OpenClaim := { program := "ytfbnjdlnmnhjoaa", sum := "551f5bcb9ba381dee1bd56c9734b381513a41cc61d310f57104f03257bd630cf", func := "loop.example/g00140/laws.FnExactNew", spec := "fnExactNew", recurses := true, apart := false, narrowed := true }
def FnExactNewUptoSaid : Prop := fnExactNewUptoRow.holds Try.pinned (OpenSpec.upto fnExactNewSpec)

/-- 'laws.FnExactAddRoot', WHERE WHAT IT READS IS OF BULK AT MOST 1048576: true; the input reads as it did. -/
def fnExactAddRootUptoRow : OpenClaim := { program := "ytfbnjdlnmnhjoaa", sum := "551f5bcb9ba381dee1bd56c9734b381513a41cc61d310f57104f03257bd630cf", func := "loop.example/g00140/laws.FnExactAddRoot", spec := "fnExactAddRoot", recurses := true, apart := false, narrowed := true }
def FnExactAddRootUptoSaid : Prop := fnExactAddRootUptoRow.holds Try.pinned (OpenSpec.upto fnExactAddRootSpec)

/-- 'laws.FnExactSetRoot', WHERE WHAT IT READS IS OF BULK AT MOST 1048576: true; the input reads as it did. -/
def fnExactSetRootUptoRow : OpenClaim := { program := "ytfbnjdlnmnhjoaa", sum := "551f5bcb9ba381dee1bd56c9734b381513a41cc61d310f57104f03257bd630cf", func := "loop.example/g00140/laws.FnExactSetRoot", spec := "fnExactSetRoot", recurses := true, apart := false, narrowed := true }
def FnExactSetRootUptoSaid : Prop := fnExactSetRootUptoRow.holds Try.pinned (OpenSpec.upto fnExactSetRootSpec)

end Rows
end Go.Proofs.Ytfbnjdlnmnhjoaa
