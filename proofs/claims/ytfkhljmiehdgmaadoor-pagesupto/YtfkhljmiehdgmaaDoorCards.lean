/-
  DERIVED. GIVEN WITH THE SEED: THE CARDS: each row of YtfkhljmiehdgmaaDoorRows.lean that lists a variable, with what it lists TIED to the program's text (the seventh form; the later family's looks); each row that meets fmt, with fmt's text TOLD by the authors' own Lean function (tested against real Go, not proved from fmt's source: count such statements apart). THE CARD IS WHAT COUNTS. Prove the row's statement (the work); the ties are given (YtfkhljmiehdgmaaDoorTie.lean); close each card by the builder's one call (the guide's Derived/Test/ToyasCard.lean, 'card_holds'). Laid BY PROGRAM, IN A SANDBOX (cutbox-door.mjs). By AI agents, Wed Nov 11 2026. No macro, syntax, notation, axiom, sorry.
-/
import Derived.Test.YtfkhljmiehdgmaaDoorRows
import GoSem.ClaimSeven
namespace Go.Proofs.YtfkhljmiehdgmaaDoor
namespace Rows

/-- THE TIED CARD OF 'stencillaw.Escapes'. -/
def escapesCard : Claim7 := { stood := { row := escapesRow, standIns := [], harness := (true, "7517f71de19a451fbe9b879b02e3ecaa006d237e4ce92025134bf741c7ab079f"), looks := false }, kinds := [], alts := [], laidByText := true, laidKinds := [.data, .data, .data], laidTests := true, laidLooks := .later }
def EscapesCardSaid : Prop := Claim7.holds Tryd.pinned (.plain (OpenSpec.ofChange escapesSpec)) escapesCard

/-- THE TIED CARD OF 'stencilkeep.Undone'. -/
def undoneCard : Claim7 := { stood := { row := undoneRow, standIns := [], harness := (true, "7517f71de19a451fbe9b879b02e3ecaa006d237e4ce92025134bf741c7ab079f"), looks := false }, kinds := [], alts := [], laidByText := true, laidKinds := [.data, .data, .data], laidTests := true, laidLooks := .later }
def UndoneCardSaid : Prop := Claim7.holds Tryd.pinned (.plain (OpenSpec.ofChange undoneSpec)) undoneCard

/-- THE TIED CARD OF 'stencillaw.Pages'. -/
def pagesCard : Claim7 := { stood := { row := pagesRow, standIns := [], harness := (true, "7517f71de19a451fbe9b879b02e3ecaa006d237e4ce92025134bf741c7ab079f"), looks := false }, kinds := [], alts := [], laidByText := true, laidKinds := [.data, .data, .data, .data, .data, .data, .data, .data], laidTests := true, laidLooks := .later }
def PagesCardSaid : Prop := Claim7.holds Tryd.pinned (.plain (OpenSpec.ofChange pagesSpec)) pagesCard

/-- THE TIED CARD OF 'stencilkeep.Joined'. -/
def joinedCard : Claim7 := { stood := { row := joinedRow, standIns := [], harness := (true, "7517f71de19a451fbe9b879b02e3ecaa006d237e4ce92025134bf741c7ab079f"), looks := false }, kinds := [], alts := [], laidByText := true, laidKinds := [.data, .data, .data, .data, .data, .data, .data, .data], laidTests := true, laidLooks := .later }
def JoinedCardSaid : Prop := Claim7.holds Tryd.pinned (.plain (OpenSpec.ofChange joinedSpec)) joinedCard

/-- THE SECOND FORM's CARD OF 'stencillaw.Escapes'. -/
def escapesUptoCard : Claim7 := { stood := { row := escapesUptoRow, standIns := [], harness := (true, "7517f71de19a451fbe9b879b02e3ecaa006d237e4ce92025134bf741c7ab079f"), looks := false }, kinds := [], alts := [], laidByText := true, laidKinds := [.data, .data, .data], laidTests := true, laidLooks := .later }
def EscapesUptoCardSaid : Prop := Claim7.holds Tryd.pinned (.plain (OpenSpec.upto escapesSpec)) escapesUptoCard

/-- THE SECOND FORM's CARD OF 'stencilkeep.Undone'. -/
def undoneUptoCard : Claim7 := { stood := { row := undoneUptoRow, standIns := [], harness := (true, "7517f71de19a451fbe9b879b02e3ecaa006d237e4ce92025134bf741c7ab079f"), looks := false }, kinds := [], alts := [], laidByText := true, laidKinds := [.data, .data, .data], laidTests := true, laidLooks := .later }
def UndoneUptoCardSaid : Prop := Claim7.holds Tryd.pinned (.plain (OpenSpec.upto undoneSpec)) undoneUptoCard

/-- THE SECOND FORM's CARD OF 'stencillaw.Pages'. -/
def pagesUptoCard : Claim7 := { stood := { row := pagesUptoRow, standIns := [], harness := (true, "7517f71de19a451fbe9b879b02e3ecaa006d237e4ce92025134bf741c7ab079f"), looks := false }, kinds := [], alts := [], laidByText := true, laidKinds := [.data, .data, .data, .data, .data, .data, .data, .data], laidTests := true, laidLooks := .later }
def PagesUptoCardSaid : Prop := Claim7.holds Tryd.pinned (.plain (OpenSpec.upto pagesSpec)) pagesUptoCard

/-- THE SECOND FORM's CARD OF 'stencilkeep.Joined'. -/
def joinedUptoCard : Claim7 := { stood := { row := joinedUptoRow, standIns := [], harness := (true, "7517f71de19a451fbe9b879b02e3ecaa006d237e4ce92025134bf741c7ab079f"), looks := false }, kinds := [], alts := [], laidByText := true, laidKinds := [.data, .data, .data, .data, .data, .data, .data, .data], laidTests := true, laidLooks := .later }
def JoinedUptoCardSaid : Prop := Claim7.holds Tryd.pinned (.plain (OpenSpec.upto joinedSpec)) joinedUptoCard
end Rows
end Go.Proofs.YtfkhljmiehdgmaaDoor
