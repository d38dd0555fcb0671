/-
  DERIVED. GIVEN WITH THE SEED: THE CARDS: each row of YtalfkihppimedaaDoorRows.lean that lists a variable, with what it lists TIED to the program's text (the seventh form; the later family's looks); each row that meets fmt, with fmt's text TOLD by the authors' own Lean function (tested against real Go, not proved from fmt's source: count such statements apart). THE CARD IS WHAT COUNTS. Prove the row's statement (the work); the ties are given (YtalfkihppimedaaDoorTie.lean); close each card by the builder's one call (the guide's Derived/Test/ToyasCard.lean, 'card_holds'). Laid BY PROGRAM, IN A SANDBOX (cutbox-door.mjs). By AI agents, Wed Nov 11 2026. No macro, syntax, notation, axiom, sorry.
-/
import Derived.Test.YtalfkihppimedaaDoorRows
import GoSem.ClaimSeven
namespace Go.Proofs.YtalfkihppimedaaDoor
namespace Rows

/-- THE TIED CARD OF 'stencillaw.Escapes'. -/
def escapesCard : Claim7 := { stood := { row := escapesRow, standIns := [], harness := (true, "c13bae5bf69dcf056979db419be730d203bc4a21099aaf61a2a7ab1274b5da1f"), looks := false }, kinds := [], alts := [], laidByText := true, laidKinds := [.data, .data, .data], laidTests := true, laidLooks := .later }
def EscapesCardSaid : Prop := Claim7.holds Tryd.pinned (.plain (OpenSpec.ofChange escapesSpec)) escapesCard

/-- THE TIED CARD OF 'stencilkeep.Undone'. -/
def undoneCard : Claim7 := { stood := { row := undoneRow, standIns := [], harness := (true, "c13bae5bf69dcf056979db419be730d203bc4a21099aaf61a2a7ab1274b5da1f"), looks := false }, kinds := [], alts := [], laidByText := true, laidKinds := [.data, .data, .data], laidTests := true, laidLooks := .later }
def UndoneCardSaid : Prop := Claim7.holds Tryd.pinned (.plain (OpenSpec.ofChange undoneSpec)) undoneCard

/-- THE SECOND FORM's CARD OF 'stencillaw.Escapes'. -/
def escapesUptoCard : Claim7 := { stood := { row := escapesUptoRow, standIns := [], harness := (true, "c13bae5bf69dcf056979db419be730d203bc4a21099aaf61a2a7ab1274b5da1f"), looks := false }, kinds := [], alts := [], laidByText := true, laidKinds := [.data, .data, .data], laidTests := true, laidLooks := .later }
def EscapesUptoCardSaid : Prop := Claim7.holds Tryd.pinned (.plain (OpenSpec.upto escapesSpec)) escapesUptoCard

/-- THE SECOND FORM's CARD OF 'stencilkeep.Undone'. -/
def undoneUptoCard : Claim7 := { stood := { row := undoneUptoRow, standIns := [], harness := (true, "c13bae5bf69dcf056979db419be730d203bc4a21099aaf61a2a7ab1274b5da1f"), looks := false }, kinds := [], alts := [], laidByText := true, laidKinds := [.data, .data, .data], laidTests := true, laidLooks := .later }
def UndoneUptoCardSaid : Prop := Claim7.holds Tryd.pinned (.plain (OpenSpec.upto undoneSpec)) undoneUptoCard
end Rows
end Go.Proofs.YtalfkihppimedaaDoor
