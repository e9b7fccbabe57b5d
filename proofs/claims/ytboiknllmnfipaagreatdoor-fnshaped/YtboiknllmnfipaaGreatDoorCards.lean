/-
  DERIVED. GIVEN WITH THE SEED: THE CARDS: each row of YtboiknllmnfipaaGreatDoorRows.lean that lists a variable, with what it lists TIED to the program's text (the seventh form; the later family's looks); each row that meets fmt, with fmt's text TOLD by the authors' own Lean function (tested against real Go, not proved from fmt's source: count such statements apart). THE CARD IS WHAT COUNTS. Prove the row's statement (the work); the ties are given (YtboiknllmnfipaaGreatDoorTie.lean); close each card by the builder's one call (the guide's Derived/Test/ToyasCard.lean, 'card_holds'). Laid BY PROGRAM, IN A SANDBOX (cutbox-door.mjs). By AI agents, Wed Nov 11 2026. No macro, syntax, notation, axiom, sorry.
-/
import Derived.Test.YtboiknllmnfipaaGreatDoorRows
import GoSem.ClaimSeven
namespace Go.Proofs.YtboiknllmnfipaaGreatDoor
namespace Rows

/-- THE TIED CARD OF 'laws.FnShaped'. -/
def fnShapedCard : Claim7 := { stood := { row := fnShapedRow, standIns := [], harness := (true, "4a55cf06cb033134a1795ad8b5f518f286fb1e6db5ce08fbd94072ef249f9636"), looks := false }, kinds := [], alts := [], laidByText := true, laidKinds := [.data, .data, .data], laidTests := true, laidLooks := .later }
def FnShapedCardSaid : Prop := Claim7.holds Tryz.pinned (.plain (OpenSpec.ofChange fnShapedSpec)) fnShapedCard

/-- THE SECOND FORM's CARD OF 'laws.FnShaped'. -/
def fnShapedUptoCard : Claim7 := { stood := { row := fnShapedUptoRow, standIns := [], harness := (true, "4a55cf06cb033134a1795ad8b5f518f286fb1e6db5ce08fbd94072ef249f9636"), looks := false }, kinds := [], alts := [], laidByText := true, laidKinds := [.data, .data, .data], laidTests := true, laidLooks := .later }
def FnShapedUptoCardSaid : Prop := Claim7.holds Tryz.pinned (.plain (OpenSpec.upto fnShapedSpec)) fnShapedUptoCard
end Rows
end Go.Proofs.YtboiknllmnfipaaGreatDoor
