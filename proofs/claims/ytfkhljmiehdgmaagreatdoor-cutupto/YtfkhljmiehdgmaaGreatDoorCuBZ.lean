/-
  Steps of the proof.
-/
import Derived.WideKeyArgs
import Derived.Test.YtfkhljmiehdgmaaGreatDoorCuAQ
set_option maxRecDepth 100000
set_option maxHeartbeats 40000000
namespace Go.Proofs.YtfkhljmiehdgmaaGreatDoor
open Go.RowKit Go.Proofs.Tryz Pl
namespace fnCut
open Go.ChangeShapes Go.WideShapes Go.ChangeAt Go.WideMaps Go.WideElems
open Go.ChangeMaps (setBlock shut_map_nil open_string shut_string keptBut_setBlock frozen?_setBlock heap_setBlock_same)
theorem jf:joinedFacts Tryz.pinned.checked.prog 8 f8 (Rows.OpenSpec.upto Rows.cutSpec).bare Rows.cutUptoRow=true:=by
 unfold joinedFacts
 repeat' (rw[yL];constructor)
 all_goals(as_aux_lemma=>kernel_rfl)
end fnCut
end Go.Proofs.YtfkhljmiehdgmaaGreatDoor
