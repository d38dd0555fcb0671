/-
  Steps of the proof.
-/
import Derived.WideKeyArgs
import Derived.Test.YtfkhljmiehdgmaaGreatDoorCmAK
set_option maxRecDepth 100000
set_option maxHeartbeats 40000000
namespace Go.Proofs.YtfkhljmiehdgmaaGreatDoor.fnCompiles
open Go.ChangeShapes Go.WideShapes Go.ChangeAt Go.RowKit Go.WideMaps Go.WideElems
open Go.ChangeMaps (setBlock shut_map_nil open_string shut_string keptBut_setBlock frozen?_setBlock heap_setBlock_same)
theorem jf:joinedFacts Tryz.pinned.checked.prog 3 Tryz.f3 (Rows.OpenSpec.upto Rows.compilesSpec).bare Rows.compilesUptoRow=true:=by
 unfold joinedFacts
 repeat' (rw[Bool.and_eq_true];constructor)
 all_goals(as_aux_lemma=>kernel_rfl)
end Go.Proofs.YtfkhljmiehdgmaaGreatDoor.fnCompiles
