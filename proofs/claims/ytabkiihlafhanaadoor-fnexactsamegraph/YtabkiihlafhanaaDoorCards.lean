/-
  DERIVED. GIVEN WITH THE SEED: THE CARDS: each row of YtabkiihlafhanaaDoorRows.lean that lists a variable, with what it lists TIED to the program's text (the seventh form; the later family's looks); each row that meets fmt, with fmt's text TOLD by the authors' own Lean function (tested against real Go, not proved from fmt's source: count such statements apart). THE CARD IS WHAT COUNTS. Prove the row's statement (the work); the ties are given (YtabkiihlafhanaaDoorTie.lean); close each card by the builder's one call (the guide's Derived/Test/ToyasCard.lean, 'card_holds'). Laid BY PROGRAM, IN A SANDBOX (cutbox-door.mjs). By AI agents, Wed Nov 11 2026. No macro, syntax, notation, axiom, sorry.
-/
import Derived.Test.YtabkiihlafhanaaDoorRows
import GoSem.ClaimSeven
namespace Go.Proofs.YtabkiihlafhanaaDoor
namespace Rows

/-- THE TIED CARD OF 'laws.FnExactSameGraph'. -/
def fnExactSameGraphCard : Claim7 := { stood := { row := fnExactSameGraphRow, standIns := [], harness := (true, "549196f791d0fec8a0532c1d3276d7fdeb02ce6e553867e10c173b293e734f3c"), looks := false }, kinds := [], alts := [], laidByText := true, laidKinds := [.data, .data, .data], laidTests := true, laidLooks := .later }
def FnExactSameGraphCardSaid : Prop := Claim7.holds Tryd.pinned (.plain (OpenSpec.ofChange fnExactSameGraphSpec)) fnExactSameGraphCard

/-- THE SECOND FORM's CARD OF 'laws.FnExactSameGraph'. -/
def fnExactSameGraphUptoCard : Claim7 := { stood := { row := fnExactSameGraphUptoRow, standIns := [], harness := (true, "549196f791d0fec8a0532c1d3276d7fdeb02ce6e553867e10c173b293e734f3c"), looks := false }, kinds := [], alts := [], laidByText := true, laidKinds := [.data, .data, .data], laidTests := true, laidLooks := .later }
def FnExactSameGraphUptoCardSaid : Prop := Claim7.holds Tryd.pinned (.plain (OpenSpec.upto fnExactSameGraphSpec)) fnExactSameGraphUptoCard
end Rows
end Go.Proofs.YtabkiihlafhanaaDoor
