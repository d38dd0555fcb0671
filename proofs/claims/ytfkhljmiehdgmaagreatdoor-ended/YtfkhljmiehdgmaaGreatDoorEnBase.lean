/-
  What the row of Ended wants: the tables' cells out of the row's list, a world for the witness.
-/
import Derived.Test.YtfkhljmiehdgmaaGreatDoorCards
import Derived.Test.YtfkhljmiehdgmaaGreatDoorTie
import Derived.Test.YtfkhljmiehdgmaaGreatDoorLaid
import Derived.Test.YtfkhljmiehdgmaaGreatDoorPgTabs
import Derived.Deep.DeepHandedRow
import Derived.Test.YtfkhljmiehdgmaaGreatDoorMhL
import Derived.Shelf.Vars
namespace Go.Proofs.YtfkhljmiehdgmaaGreatDoor
open Go.ChangeShapes Go.WideShapes Go.ChangeAt Go.RowKit

theorem enOwn : ownKnob Tryz.prog.godebug = none := by kernel_rfl
theorem gMt : Tryz.prog.globalNamed "stencil/markup.markupSteps" = some 4 := by kernel_rfl
theorem gCt : Tryz.prog.globalNamed "stencil/markup.contentSteps" = some 5 := by kernel_rfl
theorem gRd : Tryz.prog.globalNamed "stencil/markup.readIn" = some 1 := by kernel_rfl
theorem gOt : Tryz.prog.globalNamed "stencil/markup.others" = some 2 := by kernel_rfl
theorem gEs : Tryz.prog.globalNamed "stencil/markup.escapes" = some 0 := by kernel_rfl
theorem gEl : Tryz.prog.globalNamed "stencil/markup.elements" = some 6 := by kernel_rfl
theorem gAt : Tryz.prog.globalNamed "stencil/markup.attributes" = some 10 := by kernel_rfl
theorem gLe : Tryz.prog.globalNamed "stencil/markup.longEscapes" = some 3 := by kernel_rfl
theorem tLe : (Tryz.prog.globals[3]?).map (·.type) = some 252 := by kernel_rfl
theorem pLe : plainT Tryz.prog 4 252 = true := by kernel_rfl
theorem dLe : cellsD 4 (Rows.laid_stencil_markup_longEscapes (H := Unit)) = longCells := rfl
theorem tMt : (Tryz.prog.globals[4]?).map (·.type) = some 255 := by kernel_rfl
theorem tCt : (Tryz.prog.globals[5]?).map (·.type) = some 256 := by kernel_rfl
theorem tRd : (Tryz.prog.globals[1]?).map (·.type) = some 216 := by kernel_rfl
theorem tOt : (Tryz.prog.globals[2]?).map (·.type) = some 216 := by kernel_rfl
theorem tEs : (Tryz.prog.globals[0]?).map (·.type) = some 213 := by kernel_rfl
theorem tEl : (Tryz.prog.globals[6]?).map (·.type) = some 293 := by kernel_rfl
theorem tAt : (Tryz.prog.globals[10]?).map (·.type) = some 327 := by kernel_rfl
theorem pMt : plainT Tryz.prog 4 255 = true := by kernel_rfl
theorem pCt : plainT Tryz.prog 4 256 = true := by kernel_rfl
theorem pRd : plainT Tryz.prog 4 216 = true := by kernel_rfl
theorem pEs : plainT Tryz.prog 4 213 = true := by kernel_rfl
theorem pEl : plainT Tryz.prog 4 293 = true := by kernel_rfl
theorem pAt : plainT Tryz.prog 4 327 = true := by kernel_rfl
theorem dMt : cellsD 4 (Rows.laid_stencil_markup_markupSteps (H := Unit)) = stepCells Pl.markupTab := rfl
theorem dCt : cellsD 4 (Rows.laid_stencil_markup_contentSteps (H := Unit)) = stepCells Pl.contentTab := rfl
theorem dRd : cellsD 4 (Rows.laid_stencil_markup_readIn (H := Unit)) = modeCells Pl.readInTab := rfl
theorem dOt : cellsD 4 (Rows.laid_stencil_markup_others (H := Unit)) = modeCells Pl.othersTab := rfl
theorem dEs : cellsD 4 (Rows.laid_stencil_markup_escapes (H := Unit)) = boolCells Pl.escapesTab := rfl
theorem dEl : cellsD 4 (Rows.laid_stencil_markup_elements (H := Unit)) = elemCells := rfl
theorem dAt : cellsD 4 (Rows.laid_stencil_markup_attributes (H := Unit)) = attrCells := rfl

/-- what the row's list gives: the eight tables' cells -/
theorem ptabs_of {W : World} (h : laidMetH Tryz.prog Rows.endedRow.laid W) : PTabs W := by
  obtain ⟨ps, hv, _⟩ := (show laidMet Tryz.prog Rows.endedRow.laid W from h)
  refine ⟨fun j v hj => ?_, fun j v hj => ?_, fun j v hj => ?_, fun j v hj => ?_, fun j v hj => ?_, fun j v hj => ?_, fun j v hj => ?_, fun j v hj => ?_⟩
  · exact cells_of_laid hv 1 _ _ rfl _ _ 4 gMt tMt pMt j v (by rw [dMt]; exact hj)
  · exact cells_of_laid hv 2 _ _ rfl _ _ 4 gCt tCt pCt j v (by rw [dCt]; exact hj)
  · exact cells_of_laid hv 3 _ _ rfl _ _ 4 gRd tRd pRd j v (by rw [dRd]; exact hj)
  · exact cells_of_laid hv 4 _ _ rfl _ _ 4 gOt tOt pRd j v (by rw [dOt]; exact hj)
  · exact cells_of_laid hv 5 _ _ rfl _ _ 4 gEs tEs pEs j v (by rw [dEs]; exact hj)
  · exact cells_of_laid hv 7 _ _ rfl _ _ 4 gEl tEl pEl j v (by rw [dEl]; exact hj)
  · exact cells_of_laid hv 8 _ _ rfl _ _ 4 gAt tAt pAt j v (by rw [dAt]; exact hj)
  · exact cells_of_laid hv 6 _ _ rfl _ _ 4 gLe tLe pLe j v (by rw [dLe]; exact hj)

/-- what the world's shape gives: internal/bytealg.MaxLen holds some int -/
theorem maxlen_of {W : World} (h : W.ShapedOpen Tryz.prog) : MaxLenAt W :=
  cell_of_shapedOpen_int (zero := #[.int .i64 0]) h (by decide +kernel) (by kernel_rfl) rfl (by kernel_rfl) (by kernel_rfl) Tryz.underlying3

/-- cells laid over an object's -/
def layCells (cs : List Value) : Obj → Obj
  | .cells _ t frozen => .cells cs.toArray t frozen
  | o => o
end Go.Proofs.YtfkhljmiehdgmaaGreatDoor
