/-
  DERIVED. GIVEN WITH THE SEED: THE CARDS: each row of YtfkhljmiehdgmaaGreatDoorRows.lean that lists a variable, with what it lists TIED to the program's text (the seventh form; the later family's looks); each row that meets fmt, with fmt's text TOLD by the authors' own Lean function (tested against real Go, not proved from fmt's source: count such statements apart). THE CARD IS WHAT COUNTS. Prove the row's statement (the work); the ties are given (YtfkhljmiehdgmaaGreatDoorTie.lean); close each card by the builder's one call (the guide's Derived/Test/ToyasCard.lean, 'card_holds'). Laid BY PROGRAM, IN A SANDBOX (cutbox-door.mjs). By AI agents, Wed Nov 11 2026. No macro, syntax, notation, axiom, sorry.
-/
import Derived.Test.YtfkhljmiehdgmaaGreatDoorRows
import GoSem.ClaimSeven
namespace Go.Proofs.YtfkhljmiehdgmaaGreatDoor
namespace Rows

/-- THE TIED CARD OF 'stencillaw.Compiles'. -/
def compilesCard : Claim7 := { stood := { row := compilesRow, standIns := [], harness := (true, "e36ae4333867d1073c929137758cf398d2c7ed788a71a60c4cd3ad0ad469c533"), looks := false }, kinds := [], alts := [], laidByText := true, laidKinds := [.data, .data, .data, .data, .data, .data, .data, .data, .data, .pinned], laidTests := true, laidLooks := .later }
def CompilesCardSaid : Prop := Claim7.holds Tryz.pinned (.plain (OpenSpec.ofChange compilesSpec)) compilesCard

/-- THE TIED CARD OF 'stencilkeep.Ended'. -/
def endedCard : Claim7 := { stood := { row := endedRow, standIns := [], harness := (true, "e36ae4333867d1073c929137758cf398d2c7ed788a71a60c4cd3ad0ad469c533"), looks := false }, kinds := [], alts := [], laidByText := true, laidKinds := [.data, .data, .data, .data, .data, .data, .data, .data, .data, .pinned], laidTests := true, laidLooks := .later }
def EndedCardSaid : Prop := Claim7.holds Tryz.pinned (.plain (OpenSpec.ofChange endedSpec)) endedCard

/-- THE TIED CARD OF 'stencillaw.Renders'. -/
def rendersCard : Claim7 := { stood := { row := rendersRow, standIns := [], harness := (true, "e36ae4333867d1073c929137758cf398d2c7ed788a71a60c4cd3ad0ad469c533"), looks := false }, kinds := [], alts := [], laidByText := true, laidKinds := [.data, .data, .data, .data, .data, .data, .data, .data, .data, .data, .data, .data, .data, .data, .data, .pinned], laidTests := true, laidLooks := .later }
def RendersCardSaid : Prop := Claim7.holds Tryz.pinned (.plain (OpenSpec.ofChange rendersSpec)) rendersCard

/-- THE TIED CARD OF 'stencilkeep.Safe'. -/
def safeCard : Claim7 := { stood := { row := safeRow, standIns := [], harness := (true, "e36ae4333867d1073c929137758cf398d2c7ed788a71a60c4cd3ad0ad469c533"), looks := false }, kinds := [], alts := [], laidByText := true, laidKinds := [.data, .data, .data, .data, .data, .data, .data, .data, .data, .data, .data, .data, .data, .data, .data, .pinned], laidTests := true, laidLooks := .later }
def SafeCardSaid : Prop := Claim7.holds Tryz.pinned (.plain (OpenSpec.ofChange safeSpec)) safeCard

/-- THE TIED CARD OF 'stencilkeep.Shaped'. -/
def shapedCard : Claim7 := { stood := { row := shapedRow, standIns := [], harness := (true, "e36ae4333867d1073c929137758cf398d2c7ed788a71a60c4cd3ad0ad469c533"), looks := false }, kinds := [], alts := [], laidByText := true, laidKinds := [.data, .data, .data, .data, .data, .data, .data, .data, .data, .data, .data, .data, .data, .data, .data, .pinned], laidTests := true, laidLooks := .later }
def ShapedCardSaid : Prop := Claim7.holds Tryz.pinned (.plain (OpenSpec.ofChange shapedSpec)) shapedCard

/-- THE TIED CARD OF 'stencilkeep.Cut'. -/
def cutCard : Claim7 := { stood := { row := cutRow, standIns := [], harness := (true, "e36ae4333867d1073c929137758cf398d2c7ed788a71a60c4cd3ad0ad469c533"), looks := false }, kinds := [], alts := [], laidByText := true, laidKinds := [.data, .data, .data, .data, .data, .data, .data, .data, .data, .data, .data, .data, .data, .data, .data, .pinned], laidTests := true, laidLooks := .later }
def CutCardSaid : Prop := Claim7.holds Tryz.pinned (.plain (OpenSpec.ofChange cutSpec)) cutCard

/-- THE TIED CARD OF 'stencilkeep.Taken'. -/
def takenCard : Claim7 := { stood := { row := takenRow, standIns := [], harness := (true, "e36ae4333867d1073c929137758cf398d2c7ed788a71a60c4cd3ad0ad469c533"), looks := false }, kinds := [], alts := [], laidByText := true, laidKinds := [.data, .data, .data, .data, .data, .data, .data, .data, .data, .data, .data, .data, .data, .data, .data, .pinned], laidTests := true, laidLooks := .later }
def TakenCardSaid : Prop := Claim7.holds Tryz.pinned (.plain (OpenSpec.ofChange takenSpec)) takenCard

/-- THE SECOND FORM's CARD OF 'stencillaw.Compiles'. -/
def compilesUptoCard : Claim7 := { stood := { row := compilesUptoRow, standIns := [], harness := (true, "e36ae4333867d1073c929137758cf398d2c7ed788a71a60c4cd3ad0ad469c533"), looks := false }, kinds := [], alts := [], laidByText := true, laidKinds := [.data, .data, .data, .data, .data, .data, .data, .data, .data, .pinned], laidTests := true, laidLooks := .later }
def CompilesUptoCardSaid : Prop := Claim7.holds Tryz.pinned (.plain (OpenSpec.upto compilesSpec)) compilesUptoCard

/-- THE SECOND FORM's CARD OF 'stencilkeep.Ended'. -/
def endedUptoCard : Claim7 := { stood := { row := endedUptoRow, standIns := [], harness := (true, "e36ae4333867d1073c929137758cf398d2c7ed788a71a60c4cd3ad0ad469c533"), looks := false }, kinds := [], alts := [], laidByText := true, laidKinds := [.data, .data, .data, .data, .data, .data, .data, .data, .data, .pinned], laidTests := true, laidLooks := .later }
def EndedUptoCardSaid : Prop := Claim7.holds Tryz.pinned (.plain (OpenSpec.upto endedSpec)) endedUptoCard

/-- THE SECOND FORM's CARD OF 'stencillaw.Renders'. -/
def rendersUptoCard : Claim7 := { stood := { row := rendersUptoRow, standIns := [], harness := (true, "e36ae4333867d1073c929137758cf398d2c7ed788a71a60c4cd3ad0ad469c533"), looks := false }, kinds := [], alts := [], laidByText := true, laidKinds := [.data, .data, .data, .data, .data, .data, .data, .data, .data, .data, .data, .data, .data, .data, .data, .pinned], laidTests := true, laidLooks := .later }
def RendersUptoCardSaid : Prop := Claim7.holds Tryz.pinned (.plain (OpenSpec.upto rendersSpec)) rendersUptoCard

/-- THE SECOND FORM's CARD OF 'stencilkeep.Safe'. -/
def safeUptoCard : Claim7 := { stood := { row := safeUptoRow, standIns := [], harness := (true, "e36ae4333867d1073c929137758cf398d2c7ed788a71a60c4cd3ad0ad469c533"), looks := false }, kinds := [], alts := [], laidByText := true, laidKinds := [.data, .data, .data, .data, .data, .data, .data, .data, .data, .data, .data, .data, .data, .data, .data, .pinned], laidTests := true, laidLooks := .later }
def SafeUptoCardSaid : Prop := Claim7.holds Tryz.pinned (.plain (OpenSpec.upto safeSpec)) safeUptoCard

/-- THE SECOND FORM's CARD OF 'stencilkeep.Shaped'. -/
def shapedUptoCard : Claim7 := { stood := { row := shapedUptoRow, standIns := [], harness := (true, "e36ae4333867d1073c929137758cf398d2c7ed788a71a60c4cd3ad0ad469c533"), looks := false }, kinds := [], alts := [], laidByText := true, laidKinds := [.data, .data, .data, .data, .data, .data, .data, .data, .data, .data, .data, .data, .data, .data, .data, .pinned], laidTests := true, laidLooks := .later }
def ShapedUptoCardSaid : Prop := Claim7.holds Tryz.pinned (.plain (OpenSpec.upto shapedSpec)) shapedUptoCard

/-- THE SECOND FORM's CARD OF 'stencilkeep.Cut'. -/
def cutUptoCard : Claim7 := { stood := { row := cutUptoRow, standIns := [], harness := (true, "e36ae4333867d1073c929137758cf398d2c7ed788a71a60c4cd3ad0ad469c533"), looks := false }, kinds := [], alts := [], laidByText := true, laidKinds := [.data, .data, .data, .data, .data, .data, .data, .data, .data, .data, .data, .data, .data, .data, .data, .pinned], laidTests := true, laidLooks := .later }
def CutUptoCardSaid : Prop := Claim7.holds Tryz.pinned (.plain (OpenSpec.upto cutSpec)) cutUptoCard

/-- THE SECOND FORM's CARD OF 'stencilkeep.Taken'. -/
def takenUptoCard : Claim7 := { stood := { row := takenUptoRow, standIns := [], harness := (true, "e36ae4333867d1073c929137758cf398d2c7ed788a71a60c4cd3ad0ad469c533"), looks := false }, kinds := [], alts := [], laidByText := true, laidKinds := [.data, .data, .data, .data, .data, .data, .data, .data, .data, .data, .data, .data, .data, .data, .data, .pinned], laidTests := true, laidLooks := .later }
def TakenUptoCardSaid : Prop := Claim7.holds Tryz.pinned (.plain (OpenSpec.upto takenSpec)) takenUptoCard
end Rows
end Go.Proofs.YtfkhljmiehdgmaaGreatDoor
