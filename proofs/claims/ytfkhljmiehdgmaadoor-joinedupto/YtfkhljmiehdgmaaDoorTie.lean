/-
  DERIVED. GIVEN WITH THE SEED: THE PROGRAM's TIES (one call each: nine closed facts by the kernel) AND EACH ROW's TIE, after the 31st guide's Derived/Test/Toyas{Tie, Card}.lean. No idea stands in it: it is a product of the set-up. Laid BY PROGRAM, IN A SANDBOX (cutbox-door.mjs). By AI agents, Wed Nov 11 2026. No macro, syntax, notation, axiom, sorry.
-/
import Derived.Test.YtfkhljmiehdgmaaDoorRows
import Derived.LaidByTextLater
import Derived.SevenTiedAt
import Derived.LaidSub
import Derived.LaidOnce
namespace Go.Proofs.YtfkhljmiehdgmaaDoor
open Go
set_option maxRecDepth 100000
theorem seatTie1 : Tryd.prog.laidByTextLater [("stencil/escape.openSchemes", Rows.laid_stencil_escape_openSchemes), ("stencil/escape.swaps", Rows.laid_stencil_escape_swaps), ("stencil/escape.escapers", Rows.laid_stencil_escape_escapers)] [.data, .data, .data] true :=
  Program.laidByTextLater_by_one 145 8 109 (by kernel_rfl) (by kernel_rfl) (by kernel_rfl) (by kernel_rfl) (by kernel_rfl) (by kernel_rfl) (fun _ _ => by kernel_rfl)
theorem seatTie2 : Tryd.prog.laidByTextLater [("stencil/markup.markupSteps", Rows.laid_stencil_markup_markupSteps), ("stencil/markup.contentSteps", Rows.laid_stencil_markup_contentSteps), ("stencil/markup.readIn", Rows.laid_stencil_markup_readIn), ("stencil/markup.others", Rows.laid_stencil_markup_others), ("stencil/markup.escapes", Rows.laid_stencil_markup_escapes), ("stencil/markup.longEscapes", Rows.laid_stencil_markup_longEscapes), ("stencil/markup.elements", Rows.laid_stencil_markup_elements), ("stencil/markup.attributes", Rows.laid_stencil_markup_attributes)] [.data, .data, .data, .data, .data, .data, .data, .data] true :=
  Program.laidByTextLater_by_one 145 8 109 (by kernel_rfl) (by kernel_rfl) (by kernel_rfl) (by kernel_rfl) (by kernel_rfl) (by kernel_rfl) (fun _ _ => by kernel_rfl)
theorem noOwnUnsafe : Tryd.pinned.checked.prog.headLifts.contains "ownunsafe" = false := by kernel_rfl
theorem tie : Tryd.prog.laidByTextLater [("stencil/escape.openSchemes", Rows.laid_stencil_escape_openSchemes), ("stencil/escape.swaps", Rows.laid_stencil_escape_swaps), ("stencil/escape.escapers", Rows.laid_stencil_escape_escapers)] [.data, .data, .data] true :=
  Program.laidByTextLater.sub seatTie1 ["stencil/escape.openSchemes", "stencil/escape.swaps", "stencil/escape.escapers"] (by kernel_rfl) (by kernel_rfl)
theorem escapes_row_tie : Rows.escapesRow.laidByTextAt .later Tryd.pinned [.data, .data, .data] true :=
  OpenClaim.laidByTextAt_later rfl rfl tie noOwnUnsafe
theorem undone_row_tie : Rows.undoneRow.laidByTextAt .later Tryd.pinned [.data, .data, .data] true :=
  OpenClaim.laidByTextAt_later rfl rfl tie noOwnUnsafe
theorem tie2 : Tryd.prog.laidByTextLater [("stencil/markup.markupSteps", Rows.laid_stencil_markup_markupSteps), ("stencil/markup.contentSteps", Rows.laid_stencil_markup_contentSteps), ("stencil/markup.readIn", Rows.laid_stencil_markup_readIn), ("stencil/markup.others", Rows.laid_stencil_markup_others), ("stencil/markup.escapes", Rows.laid_stencil_markup_escapes), ("stencil/markup.longEscapes", Rows.laid_stencil_markup_longEscapes), ("stencil/markup.elements", Rows.laid_stencil_markup_elements), ("stencil/markup.attributes", Rows.laid_stencil_markup_attributes)] [.data, .data, .data, .data, .data, .data, .data, .data] true :=
  Program.laidByTextLater.sub seatTie2 ["stencil/markup.markupSteps", "stencil/markup.contentSteps", "stencil/markup.readIn", "stencil/markup.others", "stencil/markup.escapes", "stencil/markup.longEscapes", "stencil/markup.elements", "stencil/markup.attributes"] (by kernel_rfl) (by kernel_rfl)
theorem pages_row_tie : Rows.pagesRow.laidByTextAt .later Tryd.pinned [.data, .data, .data, .data, .data, .data, .data, .data] true :=
  OpenClaim.laidByTextAt_later rfl rfl tie2 noOwnUnsafe
theorem joined_row_tie : Rows.joinedRow.laidByTextAt .later Tryd.pinned [.data, .data, .data, .data, .data, .data, .data, .data] true :=
  OpenClaim.laidByTextAt_later rfl rfl tie2 noOwnUnsafe
theorem escapesUpto_row_tie : Rows.escapesUptoRow.laidByTextAt .later Tryd.pinned [.data, .data, .data] true :=
  OpenClaim.laidByTextAt_later rfl rfl tie noOwnUnsafe
theorem undoneUpto_row_tie : Rows.undoneUptoRow.laidByTextAt .later Tryd.pinned [.data, .data, .data] true :=
  OpenClaim.laidByTextAt_later rfl rfl tie noOwnUnsafe
theorem pagesUpto_row_tie : Rows.pagesUptoRow.laidByTextAt .later Tryd.pinned [.data, .data, .data, .data, .data, .data, .data, .data] true :=
  OpenClaim.laidByTextAt_later rfl rfl tie2 noOwnUnsafe
theorem joinedUpto_row_tie : Rows.joinedUptoRow.laidByTextAt .later Tryd.pinned [.data, .data, .data, .data, .data, .data, .data, .data] true :=
  OpenClaim.laidByTextAt_later rfl rfl tie2 noOwnUnsafe
end Go.Proofs.YtfkhljmiehdgmaaDoor
