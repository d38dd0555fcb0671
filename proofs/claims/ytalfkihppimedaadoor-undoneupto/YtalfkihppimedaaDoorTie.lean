/-
  DERIVED. GIVEN WITH THE SEED: THE PROGRAM's TIES (one call each: nine closed facts by the kernel) AND EACH ROW's TIE, after the 31st guide's Derived/Test/Toyas{Tie, Card}.lean. No idea stands in it: it is a product of the set-up. Laid BY PROGRAM, IN A SANDBOX (cutbox-door.mjs). By AI agents, Wed Nov 11 2026. No macro, syntax, notation, axiom, sorry.
-/
import Derived.Test.YtalfkihppimedaaDoorRows
import Derived.LaidByTextLater
import Derived.SevenTiedAt
import Derived.LaidSub
import Derived.LaidOnce
namespace Go.Proofs.YtalfkihppimedaaDoor
open Go
set_option maxRecDepth 100000
theorem seatTie1 : Tryd.prog.laidByTextLater [("stencil/escape.openSchemes", Rows.laid_stencil_escape_openSchemes), ("stencil/escape.swaps", Rows.laid_stencil_escape_swaps), ("stencil/escape.escapers", Rows.laid_stencil_escape_escapers)] [.data, .data, .data] true :=
  Program.laidByTextLater_by_one 35 8 43 (by kernel_rfl) (by kernel_rfl) (by kernel_rfl) (by kernel_rfl) (by kernel_rfl) (by kernel_rfl) (fun _ _ => by kernel_rfl)
theorem noOwnUnsafe : Tryd.pinned.checked.prog.headLifts.contains "ownunsafe" = false := by kernel_rfl
theorem tie : Tryd.prog.laidByTextLater [("stencil/escape.openSchemes", Rows.laid_stencil_escape_openSchemes), ("stencil/escape.swaps", Rows.laid_stencil_escape_swaps), ("stencil/escape.escapers", Rows.laid_stencil_escape_escapers)] [.data, .data, .data] true :=
  Program.laidByTextLater.sub seatTie1 ["stencil/escape.openSchemes", "stencil/escape.swaps", "stencil/escape.escapers"] (by kernel_rfl) (by kernel_rfl)
theorem escapes_row_tie : Rows.escapesRow.laidByTextAt .later Tryd.pinned [.data, .data, .data] true :=
  OpenClaim.laidByTextAt_later rfl rfl tie noOwnUnsafe
theorem undone_row_tie : Rows.undoneRow.laidByTextAt .later Tryd.pinned [.data, .data, .data] true :=
  OpenClaim.laidByTextAt_later rfl rfl tie noOwnUnsafe
theorem escapesUpto_row_tie : Rows.escapesUptoRow.laidByTextAt .later Tryd.pinned [.data, .data, .data] true :=
  OpenClaim.laidByTextAt_later rfl rfl tie noOwnUnsafe
theorem undoneUpto_row_tie : Rows.undoneUptoRow.laidByTextAt .later Tryd.pinned [.data, .data, .data] true :=
  OpenClaim.laidByTextAt_later rfl rfl tie noOwnUnsafe
end Go.Proofs.YtalfkihppimedaaDoor
