/-
  DERIVED. GIVEN WITH THE SEED: THE CARDS: each row of YtfccehcgjnjgdaaDoorRows.lean that lists a variable, with what it lists TIED to the program's text (the seventh form; the later family's looks); each row that meets fmt, with fmt's text TOLD by the authors' own Lean function (tested against real Go, not proved from fmt's source: count such statements apart). THE CARD IS WHAT COUNTS. Prove the row's statement (the work); the ties are given (YtfccehcgjnjgdaaDoorTie.lean); close each card by the builder's one call (the guide's Derived/Test/ToyasCard.lean, 'card_holds'). Laid BY PROGRAM, IN A SANDBOX (cutbox-door.mjs). By AI agents, Wed Nov 11 2026. No macro, syntax, notation, axiom, sorry.
-/
import Derived.Test.YtfccehcgjnjgdaaDoorRows
import GoSem.ClaimSeven
namespace Go.Proofs.YtfccehcgjnjgdaaDoor
namespace Rows

/-- THE TIED CARD OF 'laws.FnExactPackPage'. -/
def fnExactPackPageCard : Claim7 := { stood := { row := fnExactPackPageRow, standIns := [], harness := (true, "a7eabe926391b9930295f3109ff716bbb8019a5e173ca90124e81b88bfa43309"), looks := true }, kinds := [], alts := [], laidByText := true, laidKinds := [.data, .data, .data, .sentinel], laidTests := true, laidLooks := .later }
def FnExactPackPageCardSaid : Prop := Claim7.holds Tryd.pinned (.plain (OpenSpec.ofChange fnExactPackPageSpec)) fnExactPackPageCard

/-- THE TIED CARD OF 'laws.FnExactOpenPage'. -/
def fnExactOpenPageCard : Claim7 := { stood := { row := fnExactOpenPageRow, standIns := [], harness := (true, "a7eabe926391b9930295f3109ff716bbb8019a5e173ca90124e81b88bfa43309"), looks := true }, kinds := [], alts := [], laidByText := true, laidKinds := [.data, .data, .data, .handle, .sentinel, .sentinel, .sentinel, .sentinel, .sentinel, .sentinel], laidTests := true, laidLooks := .later }
def FnExactOpenPageCardSaid : Prop := Claim7.holds Tryd.pinned (.plain (OpenSpec.ofChange fnExactOpenPageSpec)) fnExactOpenPageCard

/-- THE TIED CARD OF 'laws.FnExactSuperText'. -/
def fnExactSuperTextCard : Claim7 := { stood := { row := fnExactSuperTextRow, standIns := [], harness := (true, "a7eabe926391b9930295f3109ff716bbb8019a5e173ca90124e81b88bfa43309"), looks := true }, kinds := [], alts := [], laidByText := true, laidKinds := [.data, .data, .data], laidTests := true, laidLooks := .later }
def FnExactSuperTextCardSaid : Prop := Claim7.holds Tryd.pinned (.plain (OpenSpec.ofChange fnExactSuperTextSpec)) fnExactSuperTextCard

/-- THE SECOND FORM's CARD OF 'laws.FnExactPackPage'. -/
def fnExactPackPageUptoCard : Claim7 := { stood := { row := fnExactPackPageUptoRow, standIns := [], harness := (true, "a7eabe926391b9930295f3109ff716bbb8019a5e173ca90124e81b88bfa43309"), looks := true }, kinds := [], alts := [], laidByText := true, laidKinds := [.data, .data, .data, .sentinel], laidTests := true, laidLooks := .later }
def FnExactPackPageUptoCardSaid : Prop := Claim7.holds Tryd.pinned (.plain (OpenSpec.upto fnExactPackPageSpec)) fnExactPackPageUptoCard

/-- THE SECOND FORM's CARD OF 'laws.FnExactOpenPage'. -/
def fnExactOpenPageUptoCard : Claim7 := { stood := { row := fnExactOpenPageUptoRow, standIns := [], harness := (true, "a7eabe926391b9930295f3109ff716bbb8019a5e173ca90124e81b88bfa43309"), looks := true }, kinds := [], alts := [], laidByText := true, laidKinds := [.data, .data, .data, .handle, .sentinel, .sentinel, .sentinel, .sentinel, .sentinel, .sentinel], laidTests := true, laidLooks := .later }
def FnExactOpenPageUptoCardSaid : Prop := Claim7.holds Tryd.pinned (.plain (OpenSpec.upto fnExactOpenPageSpec)) fnExactOpenPageUptoCard

/-- THE SECOND FORM's CARD OF 'laws.FnExactSuperText'. -/
def fnExactSuperTextUptoCard : Claim7 := { stood := { row := fnExactSuperTextUptoRow, standIns := [], harness := (true, "a7eabe926391b9930295f3109ff716bbb8019a5e173ca90124e81b88bfa43309"), looks := true }, kinds := [], alts := [], laidByText := true, laidKinds := [.data, .data, .data], laidTests := true, laidLooks := .later }
def FnExactSuperTextUptoCardSaid : Prop := Claim7.holds Tryd.pinned (.plain (OpenSpec.upto fnExactSuperTextSpec)) fnExactSuperTextUptoCard
end Rows
end Go.Proofs.YtfccehcgjnjgdaaDoor
