/-
  What the rows on pages want: the tables' cells out of the row's list, a world for the witness.
-/
import Derived.Test.YtfkhljmiehdgmaaDoorCards
import Derived.Test.YtfkhljmiehdgmaaDoorTie
import Derived.Test.YtfkhljmiehdgmaaDoorLaid
import Derived.Test.YtfkhljmiehdgmaaDoorPgTabs
import Derived.Deep.DeepHandedRow
namespace Go.Proofs.YtfkhljmiehdgmaaDoor
open Go.ChangeShapes Go.WideShapes Go.ChangeAt Go.RowKit

theorem pgOwn : ownKnob Tryd.prog.godebug = none := by kernel_rfl
theorem gMt : Tryd.prog.globalNamed "stencil/markup.markupSteps" = some 7 := by kernel_rfl
theorem gCt : Tryd.prog.globalNamed "stencil/markup.contentSteps" = some 8 := by kernel_rfl
theorem gRd : Tryd.prog.globalNamed "stencil/markup.readIn" = some 1 := by kernel_rfl
theorem gOt : Tryd.prog.globalNamed "stencil/markup.others" = some 2 := by kernel_rfl
theorem gEs : Tryd.prog.globalNamed "stencil/markup.escapes" = some 0 := by kernel_rfl
theorem gEl : Tryd.prog.globalNamed "stencil/markup.elements" = some 10 := by kernel_rfl
theorem gAt : Tryd.prog.globalNamed "stencil/markup.attributes" = some 11 := by kernel_rfl
theorem gLe : Tryd.prog.globalNamed "stencil/markup.longEscapes" = some 6 := by kernel_rfl
theorem tLe : (Tryd.prog.globals[6]?).map (·.type) = some 113 := by kernel_rfl
theorem pLe : plainT Tryd.prog 4 113 = true := by kernel_rfl
theorem dLe : cellsD 4 (Rows.laid_stencil_markup_longEscapes (H := Unit)) = longCells := rfl
theorem tMt : (Tryd.prog.globals[7]?).map (·.type) = some 116 := by kernel_rfl
theorem tCt : (Tryd.prog.globals[8]?).map (·.type) = some 117 := by kernel_rfl
theorem tRd : (Tryd.prog.globals[1]?).map (·.type) = some 90 := by kernel_rfl
theorem tOt : (Tryd.prog.globals[2]?).map (·.type) = some 90 := by kernel_rfl
theorem tEs : (Tryd.prog.globals[0]?).map (·.type) = some 87 := by kernel_rfl
theorem tEl : (Tryd.prog.globals[10]?).map (·.type) = some 128 := by kernel_rfl
theorem tAt : (Tryd.prog.globals[11]?).map (·.type) = some 131 := by kernel_rfl
theorem pMt : plainT Tryd.prog 4 116 = true := by kernel_rfl
theorem pCt : plainT Tryd.prog 4 117 = true := by kernel_rfl
theorem pRd : plainT Tryd.prog 4 90 = true := by kernel_rfl
theorem pEs : plainT Tryd.prog 4 87 = true := by kernel_rfl
theorem pEl : plainT Tryd.prog 4 128 = true := by kernel_rfl
theorem pAt : plainT Tryd.prog 4 131 = true := by kernel_rfl
theorem dMt : cellsD 4 (Rows.laid_stencil_markup_markupSteps (H := Unit)) = stepCells Pl.markupTab := rfl
theorem dCt : cellsD 4 (Rows.laid_stencil_markup_contentSteps (H := Unit)) = stepCells Pl.contentTab := rfl
theorem dRd : cellsD 4 (Rows.laid_stencil_markup_readIn (H := Unit)) = modeCells Pl.readInTab := rfl
theorem dOt : cellsD 4 (Rows.laid_stencil_markup_others (H := Unit)) = modeCells Pl.othersTab := rfl
theorem dEs : cellsD 4 (Rows.laid_stencil_markup_escapes (H := Unit)) = boolCells Pl.escapesTab := rfl
theorem dEl : cellsD 4 (Rows.laid_stencil_markup_elements (H := Unit)) = elemCells := rfl
theorem dAt : cellsD 4 (Rows.laid_stencil_markup_attributes (H := Unit)) = attrCells := rfl

/-- what the row's list gives: the eight tables' cells -/
theorem ptabs_of {W : World} (h : laidMetH Tryd.prog Rows.pagesRow.laid W) : PTabs W := by
  obtain ⟨ps, hv, _⟩ := (show laidMet Tryd.prog Rows.pagesRow.laid W from h)
  refine ⟨fun j v hj => ?_, fun j v hj => ?_, fun j v hj => ?_, fun j v hj => ?_, fun j v hj => ?_, fun j v hj => ?_, fun j v hj => ?_, fun j v hj => ?_⟩
  · exact cells_of_laid hv 0 _ _ rfl _ _ 4 gMt tMt pMt j v (by rw [dMt]; exact hj)
  · exact cells_of_laid hv 1 _ _ rfl _ _ 4 gCt tCt pCt j v (by rw [dCt]; exact hj)
  · exact cells_of_laid hv 2 _ _ rfl _ _ 4 gRd tRd pRd j v (by rw [dRd]; exact hj)
  · exact cells_of_laid hv 3 _ _ rfl _ _ 4 gOt tOt pRd j v (by rw [dOt]; exact hj)
  · exact cells_of_laid hv 4 _ _ rfl _ _ 4 gEs tEs pEs j v (by rw [dEs]; exact hj)
  · exact cells_of_laid hv 6 _ _ rfl _ _ 4 gEl tEl pEl j v (by rw [dEl]; exact hj)
  · exact cells_of_laid hv 7 _ _ rfl _ _ 4 gAt tAt pAt j v (by rw [dAt]; exact hj)
  · exact cells_of_laid hv 5 _ _ rfl _ _ 4 gLe tLe pLe j v (by rw [dLe]; exact hj)

/-- cells laid over an object's -/
def layCells (cs : List Value) : Obj → Obj
  | .cells _ t frozen => .cells cs.toArray t frozen
  | o => o
theorem bulk_one {H : Type} {s : ByteArray} {gs : List (DataW H)} (hk : Rows.uptoSmall H ([.lit (.string s.data.toList)] ++ gs) = true) : s.size ≤ 1048576 := by
  have h : Rows.uptoBulkAll ([DataW.lit (H := H) (.string s.data.toList)] ++ gs) ≤ 1048576 := of_decide_eq_true hk
  simp only [List.cons_append, List.nil_append, Rows.uptoBulkAll, Rows.uptoBulk] at h
  have : s.data.toList.length = s.size := rfl
  omega
theorem bulk_two {H : Type} {s t : ByteArray} {gs : List (DataW H)} (hk : Rows.uptoSmall H ([.lit (.string s.data.toList), .lit (.string t.data.toList)] ++ gs) = true) : s.size + t.size ≤ 1048576 := by
  have h : Rows.uptoBulkAll ([DataW.lit (H := H) (.string s.data.toList), DataW.lit (H := H) (.string t.data.toList)] ++ gs) ≤ 1048576 := of_decide_eq_true hk
  simp only [List.cons_append, List.nil_append, Rows.uptoBulkAll, Rows.uptoBulk] at h
  have : s.data.toList.length = s.size := rfl
  have : t.data.toList.length = t.size := rfl
  omega

end Go.Proofs.YtfkhljmiehdgmaaDoor
