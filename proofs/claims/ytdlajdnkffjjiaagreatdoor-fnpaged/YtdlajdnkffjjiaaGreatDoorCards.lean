/-
  DERIVED. GIVEN WITH THE SEED: THE CARDS: each row of YtdlajdnkffjjiaaGreatDoorRows.lean that lists a variable, with what it lists TIED to the program's text (the seventh form; the later family's looks); each row that meets fmt, with fmt's text TOLD by the authors' own Lean function (tested against real Go, not proved from fmt's source: count such statements apart). THE CARD IS WHAT COUNTS. Prove the row's statement (the work); the ties are given (YtdlajdnkffjjiaaGreatDoorTie.lean); close each card by the builder's one call (the guide's Derived/Test/ToyasCard.lean, 'card_holds'). Laid BY PROGRAM, IN A SANDBOX (cutbox-door.mjs). By AI agents, Wed Nov 11 2026. No macro, syntax, notation, axiom, sorry.
-/
import Derived.Test.YtdlajdnkffjjiaaGreatDoorRows
import GoSem.ClaimSeven
namespace Go.Proofs.YtdlajdnkffjjiaaGreatDoor
namespace Rows

/-- THE TIED CARD OF 'laws.FnPaged'. -/
def fnPagedCard : Claim7 := { stood := { row := fnPagedRow, standIns := [], harness := (true, "d4e381bf3589f5b2ec8f39e4a3ae3a6393506118996c7d184f5b806e1cd2432c"), looks := true }, kinds := [], alts := [], laidByText := true, laidKinds := [.data, .data, .data, .handle, .sentinel, .sentinel, .sentinel, .sentinel, .sentinel, .sentinel], laidTests := true, laidLooks := .later }
def FnPagedCardSaid : Prop := Claim7.holds Tryz.pinned (.plain (OpenSpec.ofChange fnPagedSpec)) fnPagedCard

/-- THE TIED CARD OF 'laws.FnSupers'. -/
def fnSupersCard : Claim7 := { stood := { row := fnSupersRow, standIns := [], harness := (true, "d4e381bf3589f5b2ec8f39e4a3ae3a6393506118996c7d184f5b806e1cd2432c"), looks := true }, kinds := [], alts := [], laidByText := true, laidKinds := [.data, .data, .data, .handle, .sentinel, .sentinel, .sentinel, .sentinel, .sentinel, .sentinel], laidTests := true, laidLooks := .later }
def FnSupersCardSaid : Prop := Claim7.holds Tryz.pinned (.plain (OpenSpec.ofChange fnSupersSpec)) fnSupersCard

/-- THE SECOND FORM's CARD OF 'laws.FnPaged'. -/
def fnPagedUptoCard : Claim7 := { stood := { row := fnPagedUptoRow, standIns := [], harness := (true, "d4e381bf3589f5b2ec8f39e4a3ae3a6393506118996c7d184f5b806e1cd2432c"), looks := true }, kinds := [], alts := [], laidByText := true, laidKinds := [.data, .data, .data, .handle, .sentinel, .sentinel, .sentinel, .sentinel, .sentinel, .sentinel], laidTests := true, laidLooks := .later }
def FnPagedUptoCardSaid : Prop := Claim7.holds Tryz.pinned (.plain (OpenSpec.upto fnPagedSpec)) fnPagedUptoCard

/-- THE SECOND FORM's CARD OF 'laws.FnSupers'. -/
def fnSupersUptoCard : Claim7 := { stood := { row := fnSupersUptoRow, standIns := [], harness := (true, "d4e381bf3589f5b2ec8f39e4a3ae3a6393506118996c7d184f5b806e1cd2432c"), looks := true }, kinds := [], alts := [], laidByText := true, laidKinds := [.data, .data, .data, .handle, .sentinel, .sentinel, .sentinel, .sentinel, .sentinel, .sentinel], laidTests := true, laidLooks := .later }
def FnSupersUptoCardSaid : Prop := Claim7.holds Tryz.pinned (.plain (OpenSpec.upto fnSupersSpec)) fnSupersUptoCard
end Rows
end Go.Proofs.YtdlajdnkffjjiaaGreatDoor
