/-
  DERIVED. GIVEN WITH THE SEED: THE CARDS: each row of YtgnbibinclepcaaGreatDoorRows.lean that lists a variable, with what it lists TIED to the program's text (the seventh form; the later family's looks); each row that meets fmt, with fmt's text TOLD by the authors' own Lean function (tested against real Go, not proved from fmt's source: count such statements apart). THE CARD IS WHAT COUNTS. Prove the row's statement (the work); the ties are given (YtgnbibinclepcaaGreatDoorTie.lean); close each card by the builder's one call (the guide's Derived/Test/ToyasCard.lean, 'card_holds'). Laid BY PROGRAM, IN A SANDBOX (cutbox-door.mjs). By AI agents, Wed Nov 11 2026. No macro, syntax, notation, axiom, sorry.
-/
import Derived.Test.YtgnbibinclepcaaGreatDoorRows
import GoSem.ClaimSeven
namespace Go.Proofs.YtgnbibinclepcaaGreatDoor
namespace Rows

/-- THE TIED CARD OF 'laws.FnFrozen'. -/
def fnFrozenCard : Claim7 := { stood := { row := fnFrozenRow, standIns := [], harness := (true, "e51111934ee1acb39a6cb1661921850b4255100d4d00ec5778f6c48ef3d410e0"), looks := true }, kinds := [], alts := [], goes := true, laidByText := true, laidKinds := [.data, .data, .data, .data, .sentinel, .sentinel, .pinned], laidTests := true, laidLooks := .later }
def FnFrozenCardSaid : Prop := Claim7.holds Tryz.pinned (.plain (OpenSpec.ofChange fnFrozenSpec)) fnFrozenCard

/-- THE TIED CARD OF 'laws.FnExactFreeze'. -/
def fnExactFreezeCard : Claim7 := { stood := { row := fnExactFreezeRow, standIns := [], harness := (true, "e51111934ee1acb39a6cb1661921850b4255100d4d00ec5778f6c48ef3d410e0"), looks := true }, kinds := [], alts := [], goes := true, laidByText := true, laidKinds := [.data, .data, .data], laidTests := true, laidLooks := .later }
def FnExactFreezeCardSaid : Prop := Claim7.holds Tryz.pinned (.plain (OpenSpec.ofChange fnExactFreezeSpec)) fnExactFreezeCard

/-- THE TIED CARD OF 'laws.FnExactThaw'. -/
def fnExactThawCard : Claim7 := { stood := { row := fnExactThawRow, standIns := [], harness := (true, "e51111934ee1acb39a6cb1661921850b4255100d4d00ec5778f6c48ef3d410e0"), looks := true }, kinds := [], alts := [], goes := true, laidByText := true, laidKinds := [.data, .data, .data, .data, .sentinel, .sentinel, .pinned], laidTests := true, laidLooks := .later }
def FnExactThawCardSaid : Prop := Claim7.holds Tryz.pinned (.plain (OpenSpec.ofChange fnExactThawSpec)) fnExactThawCard

/-- THE SECOND FORM's CARD OF 'laws.FnFrozen'. -/
def fnFrozenUptoCard : Claim7 := { stood := { row := fnFrozenUptoRow, standIns := [], harness := (true, "e51111934ee1acb39a6cb1661921850b4255100d4d00ec5778f6c48ef3d410e0"), looks := true }, kinds := [], alts := [], goes := true, laidByText := true, laidKinds := [.data, .data, .data, .data, .sentinel, .sentinel, .pinned], laidTests := true, laidLooks := .later }
def FnFrozenUptoCardSaid : Prop := Claim7.holds Tryz.pinned (.plain (OpenSpec.upto fnFrozenSpec)) fnFrozenUptoCard

/-- THE SECOND FORM's CARD OF 'laws.FnExactFreeze'. -/
def fnExactFreezeUptoCard : Claim7 := { stood := { row := fnExactFreezeUptoRow, standIns := [], harness := (true, "e51111934ee1acb39a6cb1661921850b4255100d4d00ec5778f6c48ef3d410e0"), looks := true }, kinds := [], alts := [], goes := true, laidByText := true, laidKinds := [.data, .data, .data], laidTests := true, laidLooks := .later }
def FnExactFreezeUptoCardSaid : Prop := Claim7.holds Tryz.pinned (.plain (OpenSpec.upto fnExactFreezeSpec)) fnExactFreezeUptoCard

/-- THE SECOND FORM's CARD OF 'laws.FnExactThaw'. -/
def fnExactThawUptoCard : Claim7 := { stood := { row := fnExactThawUptoRow, standIns := [], harness := (true, "e51111934ee1acb39a6cb1661921850b4255100d4d00ec5778f6c48ef3d410e0"), looks := true }, kinds := [], alts := [], goes := true, laidByText := true, laidKinds := [.data, .data, .data, .data, .sentinel, .sentinel, .pinned], laidTests := true, laidLooks := .later }
def FnExactThawUptoCardSaid : Prop := Claim7.holds Tryz.pinned (.plain (OpenSpec.upto fnExactThawSpec)) fnExactThawUptoCard
end Rows
end Go.Proofs.YtgnbibinclepcaaGreatDoor
