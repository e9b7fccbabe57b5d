/-
  No cell of these rows narrows 'for every input' (looked for: loops, veiled, ifaces, maps, wideKeys, modest, calm, conditions, laid).
  DERIVED. THE GIVEN ROWS OF THIS SEAT. 6 by the template 'for every input the law returns true; each argument reads behind the call as it read before'; 0 by the template 'total and deterministic' (their statements: YtknmmllijfjlmaaTotals.lean).
  GIVEN WITH THE SEED: the statements are not yours to turn. If you find one false, say at which input.
  Laid BY PROGRAM, IN A SANDBOX (cutbox-rows.mjs): the forced cells as the released guide's own fill.sh prints them over the translation 8a6710958e33a97f… (all of the seat's roots in one cut). By AI agents, Wed Nov 11 2026. No macro, syntax, notation, axiom, sorry.
-/
import Derived.Test.YtknmmllijfjlmaaChecked
import GoSem.Claim
import GoSem.ClaimJoined
import GoSem.ClaimMapViews
import Derived.JoinedTies
import Derived.KernelRfl
namespace Go.Proofs.Ytknmmllijfjlmaa
/- THE CELL 'sum', in the pinned program and in every row, IS THE sha256 OF THE DUMP (.gsa) THAT YtknmmllijfjlmaaProg.lean LOADS. Nothing in Lean hashes anything: it is a label: what it is worth is what the hold of that sum in a sandbox is worth. -/
noncomputable def Try.pinned : Pinned := { name := "ytknmmllijfjlmaa", sum := "8a6710958e33a97f27b07ec94d89ec17f4c90171b89061abd92a4d23bf6667af", checked := Try.checked }
namespace Rows
def none {H : Type} : Left H := { results := [], args := [] }

/-- 'laws.FnWords': WHATEVER THE INPUT: true; the input reads as it did. -/
def fnWordsSpec : ChangeSpec := { name := "fnWords", fn := fun _ => fun
  | [d] => { results := [.lit (.bool true)], args := [d] }
  | _ => none }
def fnWordsRow : OpenClaim := { program := "ytknmmllijfjlmaa", sum := "8a6710958e33a97f27b07ec94d89ec17f4c90171b89061abd92a4d23bf6667af", func := "loop.example/g00140/laws.FnWords", spec := "fnWords", apart := false }
def FnWordsSaid : Prop := fnWordsRow.holds Try.pinned (OpenSpec.ofChange fnWordsSpec)

/-- ITS FALSE NEIGHBOUR: 'it returns false'. Refute it at one input. -/
def fnWordsWrong : ChangeSpec := { name := "fnWords", fn := fun _ => fun
  | [d] => { results := [.lit (.bool false)], args := [d] }
  | _ => none }
def FnWordsWrongFalsely : Prop := fnWordsRow.holds Try.pinned (OpenSpec.ofChange fnWordsWrong)

/-- 'laws.FnExactWordOk': WHATEVER THE INPUT: true; the input reads as it did. -/
def fnExactWordOkSpec : ChangeSpec := { name := "fnExactWordOk", fn := fun _ => fun
  | [d] => { results := [.lit (.bool true)], args := [d] }
  | _ => none }
def fnExactWordOkRow : OpenClaim := { program := "ytknmmllijfjlmaa", sum := "8a6710958e33a97f27b07ec94d89ec17f4c90171b89061abd92a4d23bf6667af", func := "loop.example/g00140/laws.FnExactWordOk", spec := "fnExactWordOk", apart := false }
def FnExactWordOkSaid : Prop := fnExactWordOkRow.holds Try.pinned (OpenSpec.ofChange fnExactWordOkSpec)

/-- ITS FALSE NEIGHBOUR: 'it returns false'. Refute it at one input. -/
def fnExactWordOkWrong : ChangeSpec := { name := "fnExactWordOk", fn := fun _ => fun
  | [d] => { results := [.lit (.bool false)], args := [d] }
  | _ => none }
def FnExactWordOkWrongFalsely : Prop := fnExactWordOkRow.holds Try.pinned (OpenSpec.ofChange fnExactWordOkWrong)

/-- 'laws.FnExactInt': WHATEVER THE INPUT: true; the input reads as it did. -/
def fnExactIntSpec : ChangeSpec := { name := "fnExactInt", fn := fun _ => fun
  | [d] => { results := [.lit (.bool true)], args := [d] }
  | _ => none }
def fnExactIntRow : OpenClaim := { program := "ytknmmllijfjlmaa", sum := "8a6710958e33a97f27b07ec94d89ec17f4c90171b89061abd92a4d23bf6667af", func := "loop.example/g00140/laws.FnExactInt", spec := "fnExactInt", apart := false }
def FnExactIntSaid : Prop := fnExactIntRow.holds Try.pinned (OpenSpec.ofChange fnExactIntSpec)

/-- ITS FALSE NEIGHBOUR: 'it returns false'. Refute it at one input. -/
def fnExactIntWrong : ChangeSpec := { name := "fnExactInt", fn := fun _ => fun
  | [d] => { results := [.lit (.bool false)], args := [d] }
  | _ => none }
def FnExactIntWrongFalsely : Prop := fnExactIntRow.holds Try.pinned (OpenSpec.ofChange fnExactIntWrong)

/-- 'laws.FnExactRef': WHATEVER THE INPUT: true; the input reads as it did. -/
def fnExactRefSpec : ChangeSpec := { name := "fnExactRef", fn := fun _ => fun
  | [d] => { results := [.lit (.bool true)], args := [d] }
  | _ => none }
def fnExactRefRow : OpenClaim := { program := "ytknmmllijfjlmaa", sum := "8a6710958e33a97f27b07ec94d89ec17f4c90171b89061abd92a4d23bf6667af", func := "loop.example/g00140/laws.FnExactRef", spec := "fnExactRef", apart := false }
def FnExactRefSaid : Prop := fnExactRefRow.holds Try.pinned (OpenSpec.ofChange fnExactRefSpec)

/-- ITS FALSE NEIGHBOUR: 'it returns false'. Refute it at one input. -/
def fnExactRefWrong : ChangeSpec := { name := "fnExactRef", fn := fun _ => fun
  | [d] => { results := [.lit (.bool false)], args := [d] }
  | _ => none }
def FnExactRefWrongFalsely : Prop := fnExactRefRow.holds Try.pinned (OpenSpec.ofChange fnExactRefWrong)

/-- 'laws.FnExactIntOf': WHATEVER THE INPUT: true; the input reads as it did. -/
def fnExactIntOfSpec : ChangeSpec := { name := "fnExactIntOf", fn := fun _ => fun
  | [d] => { results := [.lit (.bool true)], args := [d] }
  | _ => none }
def fnExactIntOfRow : OpenClaim := { program := "ytknmmllijfjlmaa", sum := "8a6710958e33a97f27b07ec94d89ec17f4c90171b89061abd92a4d23bf6667af", func := "loop.example/g00140/laws.FnExactIntOf", spec := "fnExactIntOf", apart := false }
def FnExactIntOfSaid : Prop := fnExactIntOfRow.holds Try.pinned (OpenSpec.ofChange fnExactIntOfSpec)

/-- ITS FALSE NEIGHBOUR: 'it returns false'. Refute it at one input. -/
def fnExactIntOfWrong : ChangeSpec := { name := "fnExactIntOf", fn := fun _ => fun
  | [d] => { results := [.lit (.bool false)], args := [d] }
  | _ => none }
def FnExactIntOfWrongFalsely : Prop := fnExactIntOfRow.holds Try.pinned (OpenSpec.ofChange fnExactIntOfWrong)

/-- 'laws.FnExactRefOf': WHATEVER THE INPUT: true; the input reads as it did. -/
def fnExactRefOfSpec : ChangeSpec := { name := "fnExactRefOf", fn := fun _ => fun
  | [d] => { results := [.lit (.bool true)], args := [d] }
  | _ => none }
def fnExactRefOfRow : OpenClaim := { program := "ytknmmllijfjlmaa", sum := "8a6710958e33a97f27b07ec94d89ec17f4c90171b89061abd92a4d23bf6667af", func := "loop.example/g00140/laws.FnExactRefOf", spec := "fnExactRefOf", apart := false }
def FnExactRefOfSaid : Prop := fnExactRefOfRow.holds Try.pinned (OpenSpec.ofChange fnExactRefOfSpec)

/-- ITS FALSE NEIGHBOUR: 'it returns false'. Refute it at one input. -/
def fnExactRefOfWrong : ChangeSpec := { name := "fnExactRefOf", fn := fun _ => fun
  | [d] => { results := [.lit (.bool false)], args := [d] }
  | _ => none }
def FnExactRefOfWrongFalsely : Prop := fnExactRefOfRow.holds Try.pinned (OpenSpec.ofChange fnExactRefOfWrong)

/- THE SECOND FORM. 'bulk': how many values and letters a reading holds, each counted each time it is reached (what is shared counts as often as it is met; a slice's spare places count too). A statement '..UptoSaid' is the law's where the arguments, and the package variables that the reading takes, are together of bulk at most 1048576: NARROWER than '..Said'. Prove '..Said' where nothing that the law and all that it calls make is longer than what came in: it says more and counts as full. Else prove '..UptoSaid'. A law counts once. -/
mutual
def uptoBulk {H : Type} : DataW H → Nat
  | .lit (.string bytes) => bytes.length + 1
  | .lit _ => 1
  | .nil => 1
  | .ptr d => uptoBulk d + 1
  | .slice elems spare => uptoBulkAll elems + uptoBulkAll spare + 1
  | .agg parts => uptoBulkAll parts + 1
  | .iface _ d => uptoBulk d + 1
  | .map entries => uptoBulkEntries entries + 1
  | .held _ => 1
def uptoBulkAll {H : Type} : List (DataW H) → Nat
  | [] => 0
  | d :: r => uptoBulk d + uptoBulkAll r
def uptoBulkEntries {H : Type} : List (Lit × DataW H) → Nat
  | [] => 0
  | x :: r => uptoBulkEntry x + uptoBulkEntries r
def uptoBulkEntry {H : Type} : Lit × DataW H → Nat
  | (.string bytes, d) => bytes.length + uptoBulk d + 1
  | (_, d) => uptoBulk d + 1
 end
def uptoSmall : (H : Type) → List (DataW H) → Bool := fun _ ds => decide (uptoBulkAll ds ≤ 1048576)
def OpenSpec.upto (s : _root_.Go.ChangeSpec) : _root_.Go.OpenSpec := { _root_.Go.OpenSpec.ofChange s with cond := some uptoSmall }

/-- 'laws.FnWords', WHERE WHAT IT READS IS OF BULK AT MOST 1048576: true; the input reads as it did. -/
def fnWordsUptoRow : OpenClaim := { program := "ytknmmllijfjlmaa", sum := "8a6710958e33a97f27b07ec94d89ec17f4c90171b89061abd92a4d23bf6667af", func := "loop.example/g00140/laws.FnWords", spec := "fnWords", apart := false, narrowed := true }
def FnWordsUptoSaid : Prop := fnWordsUptoRow.holds Try.pinned (OpenSpec.upto fnWordsSpec)

/-- 'laws.FnExactWordOk', WHERE WHAT IT READS IS OF BULK AT MOST 1048576: true; the input reads as it did. -/
def fnExactWordOkUptoRow : OpenClaim := { program := "ytknmmllijfjlmaa", sum := "8a6710958e33a97f27b07ec94d89ec17f4c90171b89061abd92a4d23bf6667af", func := "loop.example/g00140/laws.FnExactWordOk", spec := "fnExactWordOk", apart := false, narrowed := true }
def FnExactWordOkUptoSaid : Prop := fnExactWordOkUptoRow.holds Try.pinned (OpenSpec.upto fnExactWordOkSpec)

/-- 'laws.FnExactInt', WHERE WHAT IT READS IS OF BULK AT MOST 1048576: true; the input reads as it did. -/
def fnExactIntUptoRow : OpenClaim := { program := "ytknmmllijfjlmaa", sum := "8a6710958e33a97f27b07ec94d89ec17f4c90171b89061abd92a4d23bf6667af", func := "loop.example/g00140/laws.FnExactInt", spec := "fnExactInt", apart := false, narrowed := true }
def FnExactIntUptoSaid : Prop := fnExactIntUptoRow.holds Try.pinned (OpenSpec.upto fnExactIntSpec)

/-- 'laws.FnExactRef', WHERE WHAT IT READS IS OF BULK AT MOST 1048576: true; the input reads as it did. -/
def fnExactRefUptoRow : OpenClaim := { program := "ytknmmllijfjlmaa", sum := "8a6710958e33a97f27b07ec94d89ec17f4c90171b89061abd92a4d23bf6667af", func := "loop.example/g00140/laws.FnExactRef", spec := "fnExactRef", apart := false, narrowed := true }
def FnExactRefUptoSaid : Prop := fnExactRefUptoRow.holds Try.pinned (OpenSpec.upto fnExactRefSpec)

/-- 'laws.FnExactIntOf', WHERE WHAT IT READS IS OF BULK AT MOST 1048576: true; the input reads as it did. -/
def fnExactIntOfUptoRow : OpenClaim := { program := "ytknmmllijfjlmaa", sum := "8a6710958e33a97f27b07ec94d89ec17f4c90171b89061abd92a4d23bf6667af", func := "loop.example/g00140/laws.FnExactIntOf", spec := "fnExactIntOf", apart := false, narrowed := true }
def FnExactIntOfUptoSaid : Prop := fnExactIntOfUptoRow.holds Try.pinned (OpenSpec.upto fnExactIntOfSpec)

/-- 'laws.FnExactRefOf', WHERE WHAT IT READS IS OF BULK AT MOST 1048576: true; the input reads as it did. -/
def fnExactRefOfUptoRow : OpenClaim := { program := "ytknmmllijfjlmaa", sum := "8a6710958e33a97f27b07ec94d89ec17f4c90171b89061abd92a4d23bf6667af", func := "loop.example/g00140/laws.FnExactRefOf", spec := "fnExactRefOf", apart := false, narrowed := true }
def FnExactRefOfUptoSaid : Prop := fnExactRefOfUptoRow.holds Try.pinned (OpenSpec.upto fnExactRefOfSpec)

end Rows
end Go.Proofs.Ytknmmllijfjlmaa
