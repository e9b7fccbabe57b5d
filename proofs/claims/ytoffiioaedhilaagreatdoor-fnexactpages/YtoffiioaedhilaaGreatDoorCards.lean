/-
  DERIVED. GIVEN WITH THE SEED: THE CARDS: each row of YtoffiioaedhilaaGreatDoorRows.lean that lists a variable, with what it lists TIED to the program's text (the seventh form; the later family's looks); each row that meets fmt, with fmt's text TOLD by the authors' own Lean function (tested against real Go, not proved from fmt's source: count such statements apart). THE CARD IS WHAT COUNTS. Prove the row's statement (the work); the ties are given (YtoffiioaedhilaaGreatDoorTie.lean); close each card by the builder's one call (the guide's Derived/Test/ToyasCard.lean, 'card_holds'). Laid BY PROGRAM, IN A SANDBOX (cutbox-door.mjs). By AI agents, Wed Nov 11 2026. No macro, syntax, notation, axiom, sorry.
-/
import Derived.Test.YtoffiioaedhilaaGreatDoorRows
import GoSem.ClaimSeven
namespace Go.Proofs.YtoffiioaedhilaaGreatDoor
namespace Rows

/-- THE TIED CARD OF 'laws.FnExactNewest'. -/
def fnExactNewestCard : Claim7 := { stood := { row := fnExactNewestRow, standIns := [], harness := (true, "4aa511fe6d50b39ccf56212e08dce148c3e48711fa78b395e07f60f84812e869"), looks := true }, kinds := [], alts := [], laidByText := true, laidKinds := [.data, .data, .data, .handle, .sentinel, .sentinel, .sentinel, .sentinel, .sentinel, .sentinel], laidTests := true, laidLooks := .later }
def FnExactNewestCardSaid : Prop := Claim7.holds Tryz.pinned (.plain (OpenSpec.ofChange fnExactNewestSpec)) fnExactNewestCard

/-- THE TIED CARD OF 'laws.FnExactPages'. -/
def fnExactPagesCard : Claim7 := { stood := { row := fnExactPagesRow, standIns := [], harness := (true, "4aa511fe6d50b39ccf56212e08dce148c3e48711fa78b395e07f60f84812e869"), looks := true }, kinds := [], alts := [], laidByText := true, laidKinds := [.data, .data, .data, .handle, .sentinel, .sentinel, .sentinel, .sentinel, .sentinel, .sentinel], laidTests := true, laidLooks := .later }
def FnExactPagesCardSaid : Prop := Claim7.holds Tryz.pinned (.plain (OpenSpec.ofChange fnExactPagesSpec)) fnExactPagesCard

/-- THE TIED CARD OF 'laws.FnExactCommit'. -/
def fnExactCommitCard : Claim7 := { stood := { row := fnExactCommitRow, standIns := [], harness := (true, "4aa511fe6d50b39ccf56212e08dce148c3e48711fa78b395e07f60f84812e869"), looks := true }, kinds := [], alts := [], laidByText := true, laidKinds := [.data, .data, .data, .handle, .sentinel, .sentinel, .sentinel, .sentinel, .sentinel, .sentinel, .sentinel], laidTests := true, laidLooks := .later }
def FnExactCommitCardSaid : Prop := Claim7.holds Tryz.pinned (.plain (OpenSpec.ofChange fnExactCommitSpec)) fnExactCommitCard

/-- THE TIED CARD OF 'laws.FnExactScript'. -/
def fnExactScriptCard : Claim7 := { stood := { row := fnExactScriptRow, standIns := [], harness := (true, "4aa511fe6d50b39ccf56212e08dce148c3e48711fa78b395e07f60f84812e869"), looks := true }, kinds := [], alts := [], laidByText := true, laidKinds := [.data, .data, .data, .handle, .sentinel, .sentinel, .sentinel, .sentinel, .sentinel, .sentinel, .sentinel], laidTests := true, laidLooks := .later }
def FnExactScriptCardSaid : Prop := Claim7.holds Tryz.pinned (.plain (OpenSpec.ofChange fnExactScriptSpec)) fnExactScriptCard

/-- THE TIED CARD OF 'laws.FnExactCut'. -/
def fnExactCutCard : Claim7 := { stood := { row := fnExactCutRow, standIns := [], harness := (true, "4aa511fe6d50b39ccf56212e08dce148c3e48711fa78b395e07f60f84812e869"), looks := true }, kinds := [], alts := [], laidByText := true, laidKinds := [.data, .data, .data, .handle, .sentinel, .sentinel, .sentinel, .sentinel, .sentinel, .sentinel, .sentinel], laidTests := true, laidLooks := .later }
def FnExactCutCardSaid : Prop := Claim7.holds Tryz.pinned (.plain (OpenSpec.ofChange fnExactCutSpec)) fnExactCutCard

/-- THE SECOND FORM's CARD OF 'laws.FnExactNewest'. -/
def fnExactNewestUptoCard : Claim7 := { stood := { row := fnExactNewestUptoRow, standIns := [], harness := (true, "4aa511fe6d50b39ccf56212e08dce148c3e48711fa78b395e07f60f84812e869"), looks := true }, kinds := [], alts := [], laidByText := true, laidKinds := [.data, .data, .data, .handle, .sentinel, .sentinel, .sentinel, .sentinel, .sentinel, .sentinel], laidTests := true, laidLooks := .later }
def FnExactNewestUptoCardSaid : Prop := Claim7.holds Tryz.pinned (.plain (OpenSpec.upto fnExactNewestSpec)) fnExactNewestUptoCard

/-- THE SECOND FORM's CARD OF 'laws.FnExactPages'. -/
def fnExactPagesUptoCard : Claim7 := { stood := { row := fnExactPagesUptoRow, standIns := [], harness := (true, "4aa511fe6d50b39ccf56212e08dce148c3e48711fa78b395e07f60f84812e869"), looks := true }, kinds := [], alts := [], laidByText := true, laidKinds := [.data, .data, .data, .handle, .sentinel, .sentinel, .sentinel, .sentinel, .sentinel, .sentinel], laidTests := true, laidLooks := .later }
def FnExactPagesUptoCardSaid : Prop := Claim7.holds Tryz.pinned (.plain (OpenSpec.upto fnExactPagesSpec)) fnExactPagesUptoCard

/-- THE SECOND FORM's CARD OF 'laws.FnExactCommit'. -/
def fnExactCommitUptoCard : Claim7 := { stood := { row := fnExactCommitUptoRow, standIns := [], harness := (true, "4aa511fe6d50b39ccf56212e08dce148c3e48711fa78b395e07f60f84812e869"), looks := true }, kinds := [], alts := [], laidByText := true, laidKinds := [.data, .data, .data, .handle, .sentinel, .sentinel, .sentinel, .sentinel, .sentinel, .sentinel, .sentinel], laidTests := true, laidLooks := .later }
def FnExactCommitUptoCardSaid : Prop := Claim7.holds Tryz.pinned (.plain (OpenSpec.upto fnExactCommitSpec)) fnExactCommitUptoCard

/-- THE SECOND FORM's CARD OF 'laws.FnExactScript'. -/
def fnExactScriptUptoCard : Claim7 := { stood := { row := fnExactScriptUptoRow, standIns := [], harness := (true, "4aa511fe6d50b39ccf56212e08dce148c3e48711fa78b395e07f60f84812e869"), looks := true }, kinds := [], alts := [], laidByText := true, laidKinds := [.data, .data, .data, .handle, .sentinel, .sentinel, .sentinel, .sentinel, .sentinel, .sentinel, .sentinel], laidTests := true, laidLooks := .later }
def FnExactScriptUptoCardSaid : Prop := Claim7.holds Tryz.pinned (.plain (OpenSpec.upto fnExactScriptSpec)) fnExactScriptUptoCard

/-- THE SECOND FORM's CARD OF 'laws.FnExactCut'. -/
def fnExactCutUptoCard : Claim7 := { stood := { row := fnExactCutUptoRow, standIns := [], harness := (true, "4aa511fe6d50b39ccf56212e08dce148c3e48711fa78b395e07f60f84812e869"), looks := true }, kinds := [], alts := [], laidByText := true, laidKinds := [.data, .data, .data, .handle, .sentinel, .sentinel, .sentinel, .sentinel, .sentinel, .sentinel, .sentinel], laidTests := true, laidLooks := .later }
def FnExactCutUptoCardSaid : Prop := Claim7.holds Tryz.pinned (.plain (OpenSpec.upto fnExactCutSpec)) fnExactCutUptoCard
end Rows
end Go.Proofs.YtoffiioaedhilaaGreatDoor
