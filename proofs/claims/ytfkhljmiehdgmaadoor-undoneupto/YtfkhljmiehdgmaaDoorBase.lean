/-
  What every row of this seat wants: the tables' cells out of the row's list, a world for the witness.
-/
import Derived.Test.YtfkhljmiehdgmaaDoorCards
import Derived.Test.YtfkhljmiehdgmaaDoorTie
import Derived.Test.YtfkhljmiehdgmaaDoorLaid
import Derived.Test.YtfkhljmiehdgmaaDoorTabs
import Derived.Deep.DeepHandedRow
namespace Go.Proofs.YtfkhljmiehdgmaaDoor
open Go.ChangeShapes Go.WideShapes Go.ChangeAt Go.RowKit

theorem own : ownKnob Tryd.prog.godebug = none := by kernel_rfl
theorem gOpen : Tryd.prog.globalNamed "stencil/escape.openSchemes" = some 3 := by kernel_rfl
theorem gSwaps : Tryd.prog.globalNamed "stencil/escape.swaps" = some 4 := by kernel_rfl
theorem gEsc : Tryd.prog.globalNamed "stencil/escape.escapers" = some 5 := by kernel_rfl
theorem tOpen : (Tryd.prog.globals[3]?).map (·.type) = some 94 := by kernel_rfl
theorem tSwaps : (Tryd.prog.globals[4]?).map (·.type) = some 97 := by kernel_rfl
theorem tEsc : (Tryd.prog.globals[5]?).map (·.type) = some 100 := by kernel_rfl
theorem pOpen : plainT Tryd.prog 4 94 = true := by kernel_rfl
theorem pSwaps : plainT Tryd.prog 4 97 = true := by kernel_rfl
theorem pEsc : plainT Tryd.prog 4 100 = true := by kernel_rfl
theorem dOpen : cellsD 4 (Rows.laid_stencil_escape_openSchemes (H := Unit)) = openCells.toList := rfl
theorem dSwaps : cellsD 4 (Rows.laid_stencil_escape_swaps (H := Unit)) = swapCells.toList := rfl
theorem dEsc : cellsD 4 (Rows.laid_stencil_escape_escapers (H := Unit)) = escCells.toList := rfl

/-- what the row's list gives: the three tables' cells -/
theorem tabs_of {W : World} (h : laidMetH Tryd.prog Rows.escapesRow.laid W) : Tabs W := by
  obtain ⟨ps, hv, _⟩ := (show laidMet Tryd.prog Rows.escapesRow.laid W from h)
  refine ⟨fun j v hj => ?_, fun j v hj => ?_, fun j v hj => ?_⟩
  · exact cells_of_laid hv 0 _ _ rfl _ _ 4 gOpen tOpen pOpen j v (by rw [dOpen]; exact hj)
  · exact cells_of_laid hv 1 _ _ rfl _ _ 4 gSwaps tSwaps pSwaps j v (by rw [dSwaps]; exact hj)
  · exact cells_of_laid hv 2 _ _ rfl _ _ 4 gEsc tEsc pEsc j v (by rw [dEsc]; exact hj)

/-- cells laid over an object's -/
def putCells (cs : Array Value) : Obj → Obj
  | .cells _ t frozen => .cells cs t frozen
  | o => o

theorem bulk_short {H : Type} {x : DataW H} {s : ByteArray} {gs : List (DataW H)} (hk : Rows.uptoSmall H ([x, .lit (.string s.data.toList)] ++ gs) = true) : s.size ≤ 1048576 := by
  have h : Rows.uptoBulkAll ([x, DataW.lit (H := H) (.string s.data.toList)] ++ gs) ≤ 1048576 := of_decide_eq_true hk
  simp only [List.cons_append, List.nil_append, Rows.uptoBulkAll, Rows.uptoBulk] at h
  have : s.data.toList.length = s.size := rfl
  omega

end Go.Proofs.YtfkhljmiehdgmaaDoor
