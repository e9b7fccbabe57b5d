/-
  DERIVED. GIVEN WITH THE SEED: THE CARDS: each row of YtnppoeifhmkphaaGreatDoorRows.lean that lists a variable, with what it lists TIED to the program's text (the seventh form; the later family's looks); each row that meets fmt, with fmt's text TOLD by the authors' own Lean function (tested against real Go, not proved from fmt's source: count such statements apart). THE CARD IS WHAT COUNTS. Prove the row's statement (the work); the ties are given (YtnppoeifhmkphaaGreatDoorTie.lean); close each card by the builder's one call (the guide's Derived/Test/ToyasCard.lean, 'card_holds'). Laid BY PROGRAM, IN A SANDBOX (cutbox-door.mjs). By AI agents, Wed Nov 11 2026. No macro, syntax, notation, axiom, sorry.
-/
import Derived.Test.YtnppoeifhmkphaaGreatDoorRows
import GoSem.ClaimSeven
namespace Go.Proofs.YtnppoeifhmkphaaGreatDoor
namespace Rows

/-- THE TIED CARD OF 'laws.FnExactGraphOk'. -/
def fnExactGraphOkCard : Claim7 := { stood := { row := fnExactGraphOkRow, standIns := [], harness := (true, "7930d902409f24cbbebda9e76259ae141745ba0d6e66fb97bfb8f64ec7a633b3"), looks := false }, kinds := [], alts := [], laidByText := true, laidKinds := [.data, .data, .data], laidTests := true, laidLooks := .later }
def FnExactGraphOkCardSaid : Prop := Claim7.holds Tryz.pinned (.plain (OpenSpec.ofChange fnExactGraphOkSpec)) fnExactGraphOkCard

/-- THE TIED CARD OF 'laws.FnExactBuild'. -/
def fnExactBuildCard : Claim7 := { stood := { row := fnExactBuildRow, standIns := [], harness := (true, "7930d902409f24cbbebda9e76259ae141745ba0d6e66fb97bfb8f64ec7a633b3"), looks := false }, kinds := [], alts := [], laidByText := true, laidKinds := [.data, .data, .data], laidTests := true, laidLooks := .later }
def FnExactBuildCardSaid : Prop := Claim7.holds Tryz.pinned (.plain (OpenSpec.ofChange fnExactBuildSpec)) fnExactBuildCard

/-- THE SECOND FORM's CARD OF 'laws.FnExactGraphOk'. -/
def fnExactGraphOkUptoCard : Claim7 := { stood := { row := fnExactGraphOkUptoRow, standIns := [], harness := (true, "7930d902409f24cbbebda9e76259ae141745ba0d6e66fb97bfb8f64ec7a633b3"), looks := false }, kinds := [], alts := [], laidByText := true, laidKinds := [.data, .data, .data], laidTests := true, laidLooks := .later }
def FnExactGraphOkUptoCardSaid : Prop := Claim7.holds Tryz.pinned (.plain (OpenSpec.upto fnExactGraphOkSpec)) fnExactGraphOkUptoCard

/-- THE SECOND FORM's CARD OF 'laws.FnExactBuild'. -/
def fnExactBuildUptoCard : Claim7 := { stood := { row := fnExactBuildUptoRow, standIns := [], harness := (true, "7930d902409f24cbbebda9e76259ae141745ba0d6e66fb97bfb8f64ec7a633b3"), looks := false }, kinds := [], alts := [], laidByText := true, laidKinds := [.data, .data, .data], laidTests := true, laidLooks := .later }
def FnExactBuildUptoCardSaid : Prop := Claim7.holds Tryz.pinned (.plain (OpenSpec.upto fnExactBuildSpec)) fnExactBuildUptoCard
end Rows
end Go.Proofs.YtnppoeifhmkphaaGreatDoor
