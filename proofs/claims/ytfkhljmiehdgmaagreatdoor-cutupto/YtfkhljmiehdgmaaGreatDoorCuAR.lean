/-
  Steps of the proof.
-/
import Derived.Test.YtfkhljmiehdgmaaGreatDoorCuAG
set_option maxRecDepth 100000
set_option maxHeartbeats 40000000
namespace Go.Proofs.YtfkhljmiehdgmaaGreatDoor
open Go.RowKit Go.Proofs.Tryz Pl
theorem zaq(w:World):zC 62 #[] w fun e w'=>e=.returned (qar Sx.start)/\w.alloc (.cells (qaf Sx.start) 162)=w':=by
 go_enter func62,ntmps62
 go_wp2
 refine qb8 results62 w.heap.size _ _ underlying162 rfl rfl (xG _ _) (by kernel_rfl) rfl ?_;exact⟨rfl,rfl⟩
end Go.Proofs.YtfkhljmiehdgmaaGreatDoor
